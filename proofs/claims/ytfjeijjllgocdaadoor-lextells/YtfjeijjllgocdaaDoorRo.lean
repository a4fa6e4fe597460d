/- What the reference's one answers at a word and at a number, at whatever memory. -/
import Derived.Test.YtfjeijjllgocdaaDoorTf
import Derived.Test.YtfjeijjllgocdaaDoorRk3
namespace Go.Proofs.YtfjeijjllgocdaaDoor
open Go.RowKit

/-- A reference token as a value. -/
def rtk (s : ByteArray) (kd k e n : Nat) : Value := .agg #[.int .i64 (kd : Int), .string (s.extract k e), .int .i64 (n : Int), .int .i64 (k : Int)]
def rzero : Value := .agg #[.int .i64 0, .string ⟨#[]⟩, .int .i64 0, .int .i64 0]

set_option maxHeartbeats 1000000 in
theorem rone_word (s : ByteArray) (k e : Nat) (w : World) (hs : s.size ≤ 6000) (hk : k < s.size) (hl : Lx.lower s[k] = true) (hke : k ≤ e) (hes : e < s.size) (hsp : Lx.span Lx.goes s.data.toList (k + 1) = e + 1) (h12 : e + 1 - k ≤ 12) :
    Calls Tryd.prog 24 #[.string s, .int .i64 (k : Int)] w fun r w' => r = .returned (.tuple #[rtk s 1 k (e + 1) 0, .int .i64 ((e + 1 - k : Nat) : Int)]) ∧ Kept w w' := by
  have L : Hid (∀ w, _) := letter_at s[k] true hl
  have SP : Hid (Lx.span Lx.goes s.data.toList (k + 1) = e + 1) := hsp
  have hki : (k : Int) < (s.size : Int) := by omega
  clear hl hsp
  go_enter Tryd.func24, Tryd.ntmps24
  go_wp2_with fail
  refine (L.out _).mono ?_
  rintro r w1 ⟨rfl, rfl⟩
  go_wp2_with fail
  go_loop [7] (fun to => ∃ x : Nat, k + 1 ≤ x ∧ x ≤ e + 1 ∧ to = .int .i64 (x : Int) ∧ Lx.span Lx.goes s.data.toList x = e + 1) (fun to => s.size - (intOf to).toNat)
  case atStart => exact ⟨k + 1, Nat.le_refl _, by omega, by go_num, SP.out⟩
  case round =>
    obtain ⟨x, hx1, hx2, rfl, hx3⟩ := hrel
    have HX : Hid (Lx.span Lx.goes s.data.toList x = e + 1) := hx3
    clear hx3
    by_cases hlt : x < e + 1
    · have hxs : x < s.size := by omega
      have hxi : (x : Int) < (s.size : Int) := by omega
      have hg : Lx.goes s[x] = true := by
        cases h : Lx.goes s[x] with
        | true => rfl
        | false =>
          have := Lx.span_no Lx.goes s.data.toList x (by simpa using hxs) (by rw [byte_at s x hxs]; exact h)
          rw [HX.out] at this
          omega
      have NX : Hid (Lx.span Lx.goes s.data.toList (x + 1) = e + 1) := by
        show _ = _
        rw [← Lx.span_yes Lx.goes s.data.toList x (by simpa using hxs) (by rw [byte_at s x hxs]; exact hg)]; exact HX.out
      unfold Lx.goes at hg
      cases hl : Lx.lower s[x] with
      | true =>
        have L2 : Hid (∀ w, _) := letter_at s[x] true hl
        clear hg hl
        go_wp2_with fail
        refine (L2.out _).mono ?_
        rintro r w1 ⟨rfl, rfl⟩
        go_wp2
        go_round
        case rel => exact ⟨x + 1, by omega, by omega, by go_num, NX.out⟩
        case measure => simp [intOf]; omega
      | false =>
        rw [hl] at hg
        have L2 : Hid (∀ w, _) := letter_at s[x] false hl
        have D2 : Hid (∀ w, _) := digit_at s[x] true (by simpa using hg)
        clear hg hl
        go_wp2_with fail
        refine (L2.out _).mono ?_
        rintro r w1 ⟨rfl, rfl⟩
        go_wp2_with fail
        refine (D2.out _).mono ?_
        rintro r w1 ⟨rfl, rfl⟩
        go_wp2
        go_round
        case rel => exact ⟨x + 1, by omega, by omega, by go_num, NX.out⟩
        case measure => simp [intOf]; omega
    · obtain rfl : x = e + 1 := by omega
      have hle : decide ((12 : Int) < ((e + 1 : Nat) : Int) - (k : Int)) = false := decide_eq_false (by omega)
      have hb1 : (k : Int) ≤ ((e + 1 : Nat) : Int) := by omega
      have hb2 : ((e + 1 : Nat) : Int) ≤ (s.size : Int) := by omega
      by_cases hxs : e + 1 < s.size
      · have hxi : ((e + 1 : Nat) : Int) < (s.size : Int) := by omega
        have hg : Lx.goes s[e + 1] = false := by
          cases h : Lx.goes s[e + 1] with
          | false => rfl
          | true =>
            have := Lx.span_yes Lx.goes s.data.toList (e + 1) (by simpa using hxs) (by rw [byte_at s (e + 1) hxs]; exact h)
            rw [HX.out] at this
            have h2 := Lx.le_span Lx.goes s.data.toList (e + 1 + 1)
            omega
        unfold Lx.goes at hg
        have hl : Lx.lower s[e + 1] = false := by cases h : Lx.lower s[e + 1] with | false => rfl | true => rw [h] at hg; cases hg
        rw [hl] at hg
        have L2 : Hid (∀ w, _) := letter_at s[e + 1] false hl
        have D2 : Hid (∀ w, _) := digit_at s[e + 1] false (by simpa using hg)
        clear hg hl
        go_wp2_with fail
        refine (L2.out _).mono ?_
        rintro r w1 ⟨rfl, rfl⟩
        go_wp2_with fail
        refine (D2.out _).mono ?_
        rintro r w1 ⟨rfl, rfl⟩
        go_wp2
        refine bodyPost_ret (v := .tuple #[rtk s 1 k (e + 1) 0, .int .i64 ((e + 1 - k : Nat) : Int)]) ?_ rfl ⟨rfl, (Kept.refl w).alloc (Nat.le_refl _) _⟩
        simp [results, Tryd.results24, go_sem, rtk]
        omega
      · have hxi : decide (((e + 1 : Nat) : Int) < (s.size : Int)) = false := decide_eq_false (by omega)
        go_wp2
        refine bodyPost_ret (v := .tuple #[rtk s 1 k (e + 1) 0, .int .i64 ((e + 1 - k : Nat) : Int)]) ?_ rfl ⟨rfl, (Kept.refl w).alloc (Nat.le_refl _) _⟩
        simp [results, Tryd.results24, go_sem, rtk]
        omega

set_option maxHeartbeats 1000000 in
theorem rone_long (s : ByteArray) (k e : Nat) (w : World) (hs : s.size ≤ 6000) (hk : k < s.size) (hl : Lx.lower s[k] = true) (hke : k ≤ e) (hes : e < s.size) (hsp : Lx.span Lx.goes s.data.toList (k + 1) = e + 1) (h12 : 12 < e + 1 - k) :
    Calls Tryd.prog 24 #[.string s, .int .i64 (k : Int)] w fun r w' => r = .returned (.tuple #[rzero, .int .i64 0]) ∧ Kept w w' := by
  have L : Hid (∀ w, _) := letter_at s[k] true hl
  have SP : Hid (Lx.span Lx.goes s.data.toList (k + 1) = e + 1) := hsp
  have hki : (k : Int) < (s.size : Int) := by omega
  clear hl hsp
  go_enter Tryd.func24, Tryd.ntmps24
  go_wp2_with fail
  refine (L.out _).mono ?_
  rintro r w1 ⟨rfl, rfl⟩
  go_wp2_with fail
  go_loop [7] (fun to => ∃ x : Nat, k + 1 ≤ x ∧ x ≤ e + 1 ∧ to = .int .i64 (x : Int) ∧ Lx.span Lx.goes s.data.toList x = e + 1) (fun to => s.size - (intOf to).toNat)
  case atStart => exact ⟨k + 1, Nat.le_refl _, by omega, by go_num, SP.out⟩
  case round =>
    obtain ⟨x, hx1, hx2, rfl, hx3⟩ := hrel
    have HX : Hid (Lx.span Lx.goes s.data.toList x = e + 1) := hx3
    clear hx3
    by_cases hlt : x < e + 1
    · have hxs : x < s.size := by omega
      have hxi : (x : Int) < (s.size : Int) := by omega
      have hg : Lx.goes s[x] = true := by
        cases h : Lx.goes s[x] with
        | true => rfl
        | false =>
          have := Lx.span_no Lx.goes s.data.toList x (by simpa using hxs) (by rw [byte_at s x hxs]; exact h)
          rw [HX.out] at this
          omega
      have NX : Hid (Lx.span Lx.goes s.data.toList (x + 1) = e + 1) := by
        show _ = _
        rw [← Lx.span_yes Lx.goes s.data.toList x (by simpa using hxs) (by rw [byte_at s x hxs]; exact hg)]; exact HX.out
      unfold Lx.goes at hg
      cases hl : Lx.lower s[x] with
      | true =>
        have L2 : Hid (∀ w, _) := letter_at s[x] true hl
        clear hg hl
        go_wp2_with fail
        refine (L2.out _).mono ?_
        rintro r w1 ⟨rfl, rfl⟩
        go_wp2
        go_round
        case rel => exact ⟨x + 1, by omega, by omega, by go_num, NX.out⟩
        case measure => simp [intOf]; omega
      | false =>
        rw [hl] at hg
        have L2 : Hid (∀ w, _) := letter_at s[x] false hl
        have D2 : Hid (∀ w, _) := digit_at s[x] true (by simpa using hg)
        clear hg hl
        go_wp2_with fail
        refine (L2.out _).mono ?_
        rintro r w1 ⟨rfl, rfl⟩
        go_wp2_with fail
        refine (D2.out _).mono ?_
        rintro r w1 ⟨rfl, rfl⟩
        go_wp2
        go_round
        case rel => exact ⟨x + 1, by omega, by omega, by go_num, NX.out⟩
        case measure => simp [intOf]; omega
    · obtain rfl : x = e + 1 := by omega
      have hle : decide ((12 : Int) < ((e + 1 : Nat) : Int) - (k : Int)) = true := decide_eq_true (by omega)
      have hb1 : (k : Int) ≤ ((e + 1 : Nat) : Int) := by omega
      have hb2 : ((e + 1 : Nat) : Int) ≤ (s.size : Int) := by omega
      by_cases hxs : e + 1 < s.size
      · have hxi : ((e + 1 : Nat) : Int) < (s.size : Int) := by omega
        have hg : Lx.goes s[e + 1] = false := by
          cases h : Lx.goes s[e + 1] with
          | false => rfl
          | true =>
            have := Lx.span_yes Lx.goes s.data.toList (e + 1) (by simpa using hxs) (by rw [byte_at s (e + 1) hxs]; exact h)
            rw [HX.out] at this
            have h2 := Lx.le_span Lx.goes s.data.toList (e + 1 + 1)
            omega
        unfold Lx.goes at hg
        have hl : Lx.lower s[e + 1] = false := by cases h : Lx.lower s[e + 1] with | false => rfl | true => rw [h] at hg; cases hg
        rw [hl] at hg
        have L2 : Hid (∀ w, _) := letter_at s[e + 1] false hl
        have D2 : Hid (∀ w, _) := digit_at s[e + 1] false (by simpa using hg)
        clear hg hl
        go_wp2_with fail
        refine (L2.out _).mono ?_
        rintro r w1 ⟨rfl, rfl⟩
        go_wp2_with fail
        refine (D2.out _).mono ?_
        rintro r w1 ⟨rfl, rfl⟩
        go_wp2
        refine bodyPost_ret (v := .tuple #[rzero, .int .i64 0]) ?_ rfl ⟨rfl, (Kept.refl w).alloc (Nat.le_refl _) _⟩
        simp [results, Tryd.results24, go_sem, rzero]
      · have hxi : decide (((e + 1 : Nat) : Int) < (s.size : Int)) = false := decide_eq_false (by omega)
        go_wp2
        refine bodyPost_ret (v := .tuple #[rzero, .int .i64 0]) ?_ rfl ⟨rfl, (Kept.refl w).alloc (Nat.le_refl _) _⟩
        simp [results, Tryd.results24, go_sem, rzero]

set_option maxHeartbeats 1000000 in
theorem rone_num (s : ByteArray) (k e : Nat) (w : World) (hs : s.size ≤ 6000) (hk : k < s.size) (hl : Lx.lower s[k] = false) (hd : Lx.digit s[k] = true) (hke : k ≤ e) (hes : e < s.size) (hsp : Lx.span Lx.digit s.data.toList (k + 1) = e + 1) (m : Nat) (hN : Hid (∀ w, Calls Tryd.prog 34 #[.string (s.extract k (e + 1))] w fun r w' => (∃ v : Int, r = .returned (.tuple #[.int .i64 v, .bool true]) ∧ v = (m : Int)) ∧ w' = w)) :
    Calls Tryd.prog 24 #[.string s, .int .i64 (k : Int)] w fun r w' => r = .returned (.tuple #[rtk s 2 k (e + 1) m, .int .i64 ((e + 1 - k : Nat) : Int)]) ∧ Kept w w' := by
  have L : Hid (∀ w, _) := letter_at s[k] false hl
  have D : Hid (∀ w, _) := digit_at s[k] true hd
  have SP : Hid (Lx.span Lx.digit s.data.toList (k + 1) = e + 1) := hsp
  have hki : (k : Int) < (s.size : Int) := by omega
  clear hl hsp hd
  go_enter Tryd.func24, Tryd.ntmps24
  go_wp2_with fail
  refine (L.out _).mono ?_
  rintro r w1 ⟨rfl, rfl⟩
  go_wp2_with fail
  refine (D.out _).mono ?_
  rintro r w1 ⟨rfl, rfl⟩
  go_wp2_with fail
  go_loop [7] (fun to => ∃ x : Nat, k + 1 ≤ x ∧ x ≤ e + 1 ∧ to = .int .i64 (x : Int) ∧ Lx.span Lx.digit s.data.toList x = e + 1) (fun to => s.size - (intOf to).toNat)
  case atStart => exact ⟨k + 1, Nat.le_refl _, by omega, by go_num, SP.out⟩
  case round =>
    obtain ⟨x, hx1, hx2, rfl, hx3⟩ := hrel
    have HX : Hid (Lx.span Lx.digit s.data.toList x = e + 1) := hx3
    clear hx3
    by_cases hlt : x < e + 1
    · have hxs : x < s.size := by omega
      have hxi : (x : Int) < (s.size : Int) := by omega
      have hg : Lx.digit s[x] = true := by
        cases h : Lx.digit s[x] with
        | true => rfl
        | false =>
          have := Lx.span_no Lx.digit s.data.toList x (by simpa using hxs) (by rw [byte_at s x hxs]; exact h)
          rw [HX.out] at this
          omega
      have NX : Hid (Lx.span Lx.digit s.data.toList (x + 1) = e + 1) := by
        show _ = _
        rw [← Lx.span_yes Lx.digit s.data.toList x (by simpa using hxs) (by rw [byte_at s x hxs]; exact hg)]; exact HX.out
      have D2 : Hid (∀ w, _) := digit_at s[x] true hg
      clear hg
      go_wp2_with fail
      refine (D2.out _).mono ?_
      rintro r w1 ⟨rfl, rfl⟩
      go_wp2
      go_round
      case rel => exact ⟨x + 1, by omega, by omega, by go_num, NX.out⟩
      case measure => simp [intOf]; omega
    · obtain rfl : x = e + 1 := by omega
      have hb1 : (k : Int) ≤ ((e + 1 : Nat) : Int) := by omega
      have hb2 : ((e + 1 : Nat) : Int) ≤ (s.size : Int) := by omega
      by_cases hxs : e + 1 < s.size
      · have hxi : ((e + 1 : Nat) : Int) < (s.size : Int) := by omega
        have hg : Lx.digit s[e + 1] = false := by
          cases h : Lx.digit s[e + 1] with
          | false => rfl
          | true =>
            have := Lx.span_yes Lx.digit s.data.toList (e + 1) (by simpa using hxs) (by rw [byte_at s (e + 1) hxs]; exact h)
            rw [HX.out] at this
            have h2 := Lx.le_span Lx.digit s.data.toList (e + 1 + 1)
            omega
        have D2 : Hid (∀ w, _) := digit_at s[e + 1] false hg
        clear hg
        go_wp2_with fail
        refine (D2.out _).mono ?_
        rintro r w1 ⟨rfl, rfl⟩
        go_wp2_with fail
        refine (hN.out _).mono ?_
        rintro r w1 ⟨⟨v, rfl, rfl⟩, rfl⟩
        go_wp2
        refine bodyPost_ret (v := .tuple #[rtk s 2 k (e + 1) m, .int .i64 ((e + 1 - k : Nat) : Int)]) ?_ rfl ⟨rfl, (Kept.refl _).alloc (Nat.le_refl _) _⟩
        simp [results, Tryd.results24, go_sem, rtk]
        omega
      · have hxi : decide (((e + 1 : Nat) : Int) < (s.size : Int)) = false := decide_eq_false (by omega)
        go_wp2_with fail
        refine (hN.out _).mono ?_
        rintro r w1 ⟨⟨v, rfl, rfl⟩, rfl⟩
        go_wp2
        refine bodyPost_ret (v := .tuple #[rtk s 2 k (e + 1) m, .int .i64 ((e + 1 - k : Nat) : Int)]) ?_ rfl ⟨rfl, (Kept.refl _).alloc (Nat.le_refl _) _⟩
        simp [results, Tryd.results24, go_sem, rtk]
        omega

set_option maxHeartbeats 1000000 in
theorem rone_none (s : ByteArray) (k e : Nat) (w : World) (hs : s.size ≤ 6000) (hk : k < s.size) (hl : Lx.lower s[k] = false) (hd : Lx.digit s[k] = true) (hke : k ≤ e) (hes : e < s.size) (hsp : Lx.span Lx.digit s.data.toList (k + 1) = e + 1) (hN : Hid (∀ w, Calls Tryd.prog 34 #[.string (s.extract k (e + 1))] w fun r w' => (∃ v : Int, r = .returned (.tuple #[.int .i64 v, .bool false])) ∧ w' = w)) :
    Calls Tryd.prog 24 #[.string s, .int .i64 (k : Int)] w fun r w' => r = .returned (.tuple #[rzero, .int .i64 0]) ∧ Kept w w' := by
  have L : Hid (∀ w, _) := letter_at s[k] false hl
  have D : Hid (∀ w, _) := digit_at s[k] true hd
  have SP : Hid (Lx.span Lx.digit s.data.toList (k + 1) = e + 1) := hsp
  have hki : (k : Int) < (s.size : Int) := by omega
  clear hl hsp hd
  go_enter Tryd.func24, Tryd.ntmps24
  go_wp2_with fail
  refine (L.out _).mono ?_
  rintro r w1 ⟨rfl, rfl⟩
  go_wp2_with fail
  refine (D.out _).mono ?_
  rintro r w1 ⟨rfl, rfl⟩
  go_wp2_with fail
  go_loop [7] (fun to => ∃ x : Nat, k + 1 ≤ x ∧ x ≤ e + 1 ∧ to = .int .i64 (x : Int) ∧ Lx.span Lx.digit s.data.toList x = e + 1) (fun to => s.size - (intOf to).toNat)
  case atStart => exact ⟨k + 1, Nat.le_refl _, by omega, by go_num, SP.out⟩
  case round =>
    obtain ⟨x, hx1, hx2, rfl, hx3⟩ := hrel
    have HX : Hid (Lx.span Lx.digit s.data.toList x = e + 1) := hx3
    clear hx3
    by_cases hlt : x < e + 1
    · have hxs : x < s.size := by omega
      have hxi : (x : Int) < (s.size : Int) := by omega
      have hg : Lx.digit s[x] = true := by
        cases h : Lx.digit s[x] with
        | true => rfl
        | false =>
          have := Lx.span_no Lx.digit s.data.toList x (by simpa using hxs) (by rw [byte_at s x hxs]; exact h)
          rw [HX.out] at this
          omega
      have NX : Hid (Lx.span Lx.digit s.data.toList (x + 1) = e + 1) := by
        show _ = _
        rw [← Lx.span_yes Lx.digit s.data.toList x (by simpa using hxs) (by rw [byte_at s x hxs]; exact hg)]; exact HX.out
      have D2 : Hid (∀ w, _) := digit_at s[x] true hg
      clear hg
      go_wp2_with fail
      refine (D2.out _).mono ?_
      rintro r w1 ⟨rfl, rfl⟩
      go_wp2
      go_round
      case rel => exact ⟨x + 1, by omega, by omega, by go_num, NX.out⟩
      case measure => simp [intOf]; omega
    · obtain rfl : x = e + 1 := by omega
      have hb1 : (k : Int) ≤ ((e + 1 : Nat) : Int) := by omega
      have hb2 : ((e + 1 : Nat) : Int) ≤ (s.size : Int) := by omega
      by_cases hxs : e + 1 < s.size
      · have hxi : ((e + 1 : Nat) : Int) < (s.size : Int) := by omega
        have hg : Lx.digit s[e + 1] = false := by
          cases h : Lx.digit s[e + 1] with
          | false => rfl
          | true =>
            have := Lx.span_yes Lx.digit s.data.toList (e + 1) (by simpa using hxs) (by rw [byte_at s (e + 1) hxs]; exact h)
            rw [HX.out] at this
            have h2 := Lx.le_span Lx.digit s.data.toList (e + 1 + 1)
            omega
        have D2 : Hid (∀ w, _) := digit_at s[e + 1] false hg
        clear hg
        go_wp2_with fail
        refine (D2.out _).mono ?_
        rintro r w1 ⟨rfl, rfl⟩
        go_wp2_with fail
        refine (hN.out _).mono ?_
        rintro r w1 ⟨⟨v, rfl⟩, rfl⟩
        go_wp2
        refine bodyPost_ret (v := .tuple #[rzero, .int .i64 0]) ?_ rfl ⟨rfl, (Kept.refl _).alloc (Nat.le_refl _) _⟩
        simp [results, Tryd.results24, go_sem, rzero]
      · have hxi : decide (((e + 1 : Nat) : Int) < (s.size : Int)) = false := decide_eq_false (by omega)
        go_wp2_with fail
        refine (hN.out _).mono ?_
        rintro r w1 ⟨⟨v, rfl⟩, rfl⟩
        go_wp2
        refine bodyPost_ret (v := .tuple #[rzero, .int .i64 0]) ?_ rfl ⟨rfl, (Kept.refl _).alloc (Nat.le_refl _) _⟩
        simp [results, Tryd.results24, go_sem, rzero]

end Go.Proofs.YtfjeijjllgocdaaDoor
