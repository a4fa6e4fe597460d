/- What the reference's one answers at a sign, or at what is none, at whatever memory. -/
import Derived.Test.YtfjeijjllgocdaaDoorRo
namespace Go.Proofs.YtfjeijjllgocdaaDoor
open Go.RowKit

abbrev signBytes : ByteArray := ⟨#[61, 60, 43, 45, 42, 47, 37, 40, 41, 123, 125]⟩

set_option maxHeartbeats 1000000 in
theorem rone_two (s : ByteArray) (k : Nat) (w : World) (hs : s.size ≤ 6000) (hk : k + 1 < s.size) (h1 : s[k] = 61) (h2 : s[k + 1] = 61) :
    Calls Tryd.prog 24 #[.string s, .int .i64 (k : Int)] w fun r w' => r = .returned (.tuple #[rtk s 3 k (k + 2) 0, .int .i64 2]) ∧ Kept w w' := by
  have hx : s.extract k (k + 2) = ⟨#[61, 61]⟩ := by
    rw [text_of s k (k + 2) (by omega) (by omega)]
    have hll : s.data.toList.length = s.size := by simp
    rw [Lx.drop_at _ k (by omega), Lx.drop_at _ (k + 1) (by omega), byte_at s k (by omega), byte_at s (k + 1) hk, h1, h2, show k + 2 - k = 2 by omega]
    rfl
  have HX : Hid (s.extract k (k + 2) = ⟨#[61, 61]⟩) := hx
  have L : Hid (∀ w, _) := letter_at s[k] false (by rw [h1]; decide)
  have D : Hid (∀ w, _) := digit_at s[k] false (by rw [h1]; decide)
  have e1 : ((s[k].toNat : Int) == 61) = true := by rw [h1]; rfl
  have e2 : ((s[k + 1].toNat : Int) == 61) = true := by rw [h2]; rfl
  have hki : (k : Int) + 1 < (s.size : Int) := by omega
  clear h1 h2 hx
  go_enter Tryd.func24, Tryd.ntmps24
  go_wp2_with fail
  refine (L.out _).mono ?_
  rintro r w1 ⟨rfl, rfl⟩
  go_wp2_with fail
  refine (D.out _).mono ?_
  rintro r w1 ⟨rfl, rfl⟩
  go_wp2
  refine bodyPost_ret (v := .tuple #[rtk s 3 k (k + 2) 0, .int .i64 2]) ?_ rfl ⟨rfl, (Kept.refl _).alloc (Nat.le_refl _) _⟩
  rw [rtk, HX.out]
  simp [results, Tryd.results24, go_sem]

set_option maxHeartbeats 2000000 in
theorem rone_hit (s : ByteArray) (k : Nat) (w : World) (hs : s.size ≤ 6000) (hk : k < s.size) (hl : Lx.lower s[k] = false) (hd : Lx.digit s[k] = false) (hne : s[k] ≠ 61 ∨ (s[k] = 61 ∧ ¬ k + 1 < s.size) ∨ (s[k] = 61 ∧ ∃ h : k + 1 < s.size, s[k + 1] ≠ 61)) (n : Nat) (hn : n < 11) (hit : (⟨#[61, 60, 43, 45, 42, 47, 37, 40, 41, 123, 125]⟩ : ByteArray)[n]'(by show n < 11; exact hn) = s[k]) (miss : ∀ i (hi : i < 11), i < n → (⟨#[61, 60, 43, 45, 42, 47, 37, 40, 41, 123, 125]⟩ : ByteArray)[i]'(by show i < 11; exact hi) ≠ s[k]) :
    Calls Tryd.prog 24 #[.string s, .int .i64 (k : Int)] w fun r w' => r = .returned (.tuple #[rtk s 3 k (k + 1) 0, .int .i64 1]) ∧ Kept w w' := by
  have L : Hid (∀ w, _) := letter_at s[k] false hl
  have D : Hid (∀ w, _) := digit_at s[k] false hd
  have hki : (k : Int) < (s.size : Int) := by omega
  have hb1 : (k : Int) ≤ (k : Int) + 1 := by omega
  have hb2 : (k : Int) + 1 ≤ (s.size : Int) := by omega
  have MS : Hid (∀ i (hi : i < 11), i < n → ((((⟨#[61, 60, 43, 45, 42, 47, 37, 40, 41, 123, 125]⟩ : ByteArray)[i]'(by show i < 11; exact hi)).toNat : Int) == (s[k].toNat : Int)) = false) := by
    intro i hi hin
    rw [beq_eq_false_iff_ne]
    intro e
    exact miss i hi hin (UInt8.toNat_inj.1 (by omega))
  have HT : Hid (((((⟨#[61, 60, 43, 45, 42, 47, 37, 40, 41, 123, 125]⟩ : ByteArray)[n]'(by show n < 11; exact hn)).toNat : Int) == (s[k].toNat : Int)) = true) := by
    show _ = _
    rw [hit]; simp
  clear hl hd miss hit
  rcases hne with c1 | ⟨c1, c2⟩ | ⟨c1, c2, c3⟩
  · have e1 : ((s[k].toNat : Int) == 61) = false := ne_byte (n := 61) (by decide) c1
    clear c1
    go_enter Tryd.func24, Tryd.ntmps24
    go_wp2_with fail
    refine (L.out _).mono ?_
    rintro r w1 ⟨rfl, rfl⟩
    go_wp2_with fail
    refine (D.out _).mono ?_
    rintro r w1 ⟨rfl, rfl⟩
    go_wp2_with fail
    go_loop [10] (fun i => ∃ j : Nat, j ≤ n ∧ i = .int .i64 (j : Int)) (fun i => 11 - (intOf i).toNat)
    case atStart => exact ⟨0, Nat.zero_le _, rfl⟩
    case round =>
      obtain ⟨j, hj, rfl⟩ := hrel
      by_cases hjn : j < n
      · have hj11 : j < 11 := by omega
        have hji : (j : Int) < 11 := by omega
        have hc := MS.out j hj11 hjn
        go_wp2
        go_round
        case rel => exact ⟨j + 1, by omega, by go_num⟩
        case measure => simp [intOf]; omega
      · obtain rfl : j = n := by omega
        have hji : (j : Int) < 11 := by omega
        have hc := HT.out
        go_wp2
        refine bodyPost_ret (v := .tuple #[rtk s 3 k (k + 1) 0, .int .i64 1]) ?_ rfl ⟨rfl, (Kept.refl _).alloc (Nat.le_refl _) _⟩
        simp [results, Tryd.results24, go_sem, rtk]
  · have e1 : ((s[k].toNat : Int) == 61) = true := by rw [c1]; rfl
    have e2 : decide ((k : Int) + 1 < (s.size : Int)) = false := decide_eq_false (by omega)
    clear c1
    go_enter Tryd.func24, Tryd.ntmps24
    go_wp2_with fail
    refine (L.out _).mono ?_
    rintro r w1 ⟨rfl, rfl⟩
    go_wp2_with fail
    refine (D.out _).mono ?_
    rintro r w1 ⟨rfl, rfl⟩
    go_wp2_with fail
    go_loop [10] (fun i => ∃ j : Nat, j ≤ n ∧ i = .int .i64 (j : Int)) (fun i => 11 - (intOf i).toNat)
    case atStart => exact ⟨0, Nat.zero_le _, rfl⟩
    case round =>
      obtain ⟨j, hj, rfl⟩ := hrel
      by_cases hjn : j < n
      · have hj11 : j < 11 := by omega
        have hji : (j : Int) < 11 := by omega
        have hc := MS.out j hj11 hjn
        go_wp2
        go_round
        case rel => exact ⟨j + 1, by omega, by go_num⟩
        case measure => simp [intOf]; omega
      · obtain rfl : j = n := by omega
        have hji : (j : Int) < 11 := by omega
        have hc := HT.out
        go_wp2
        refine bodyPost_ret (v := .tuple #[rtk s 3 k (k + 1) 0, .int .i64 1]) ?_ rfl ⟨rfl, (Kept.refl _).alloc (Nat.le_refl _) _⟩
        simp [results, Tryd.results24, go_sem, rtk]
  · have e1 : ((s[k].toNat : Int) == 61) = true := by rw [c1]; rfl
    have e2 : (k : Int) + 1 < (s.size : Int) := by omega
    have e3 : ((s[k + 1].toNat : Int) == 61) = false := ne_byte (n := 61) (by decide) c3
    clear c1 c3
    go_enter Tryd.func24, Tryd.ntmps24
    go_wp2_with fail
    refine (L.out _).mono ?_
    rintro r w1 ⟨rfl, rfl⟩
    go_wp2_with fail
    refine (D.out _).mono ?_
    rintro r w1 ⟨rfl, rfl⟩
    go_wp2_with fail
    go_loop [10] (fun i => ∃ j : Nat, j ≤ n ∧ i = .int .i64 (j : Int)) (fun i => 11 - (intOf i).toNat)
    case atStart => exact ⟨0, Nat.zero_le _, rfl⟩
    case round =>
      obtain ⟨j, hj, rfl⟩ := hrel
      by_cases hjn : j < n
      · have hj11 : j < 11 := by omega
        have hji : (j : Int) < 11 := by omega
        have hc := MS.out j hj11 hjn
        go_wp2
        go_round
        case rel => exact ⟨j + 1, by omega, by go_num⟩
        case measure => simp [intOf]; omega
      · obtain rfl : j = n := by omega
        have hji : (j : Int) < 11 := by omega
        have hc := HT.out
        go_wp2
        refine bodyPost_ret (v := .tuple #[rtk s 3 k (k + 1) 0, .int .i64 1]) ?_ rfl ⟨rfl, (Kept.refl _).alloc (Nat.le_refl _) _⟩
        simp [results, Tryd.results24, go_sem, rtk]

set_option maxHeartbeats 2000000 in
theorem rone_miss (s : ByteArray) (k : Nat) (w : World) (hs : s.size ≤ 6000) (hk : k < s.size) (hl : Lx.lower s[k] = false) (hd : Lx.digit s[k] = false) (hne : s[k] ≠ 61 ∨ (s[k] = 61 ∧ ¬ k + 1 < s.size) ∨ (s[k] = 61 ∧ ∃ h : k + 1 < s.size, s[k + 1] ≠ 61)) (miss : ∀ i (hi : i < 11), (⟨#[61, 60, 43, 45, 42, 47, 37, 40, 41, 123, 125]⟩ : ByteArray)[i]'(by show i < 11; exact hi) ≠ s[k]) :
    Calls Tryd.prog 24 #[.string s, .int .i64 (k : Int)] w fun r w' => r = .returned (.tuple #[rzero, .int .i64 0]) ∧ Kept w w' := by
  have L : Hid (∀ w, _) := letter_at s[k] false hl
  have D : Hid (∀ w, _) := digit_at s[k] false hd
  have hki : (k : Int) < (s.size : Int) := by omega
  have hb1 : (k : Int) ≤ (k : Int) + 1 := by omega
  have hb2 : (k : Int) + 1 ≤ (s.size : Int) := by omega
  have MS : Hid (∀ i (hi : i < 11), ((((⟨#[61, 60, 43, 45, 42, 47, 37, 40, 41, 123, 125]⟩ : ByteArray)[i]'(by show i < 11; exact hi)).toNat : Int) == (s[k].toNat : Int)) = false) := by
    intro i hi
    rw [beq_eq_false_iff_ne]
    intro e
    exact miss i hi (UInt8.toNat_inj.1 (by omega))
  clear hl hd miss
  rcases hne with c1 | ⟨c1, c2⟩ | ⟨c1, c2, c3⟩
  · have e1 : ((s[k].toNat : Int) == 61) = false := ne_byte (n := 61) (by decide) c1
    clear c1
    go_enter Tryd.func24, Tryd.ntmps24
    go_wp2_with fail
    refine (L.out _).mono ?_
    rintro r w1 ⟨rfl, rfl⟩
    go_wp2_with fail
    refine (D.out _).mono ?_
    rintro r w1 ⟨rfl, rfl⟩
    go_wp2_with fail
    go_loop [10] (fun i => ∃ j : Nat, j ≤ 11 ∧ i = .int .i64 (j : Int)) (fun i => 11 - (intOf i).toNat)
    case atStart => exact ⟨0, Nat.zero_le _, rfl⟩
    case round =>
      obtain ⟨j, hj, rfl⟩ := hrel
      by_cases hjn : j < 11
      · have hj11 : j < 11 := by omega
        have hji : (j : Int) < 11 := by omega
        have hc := MS.out j hj11
        go_wp2
        go_round
        case rel => exact ⟨j + 1, by omega, by go_num⟩
        case measure => simp [intOf]; omega
      · obtain rfl : j = 11 := by omega
        go_wp2
        refine bodyPost_ret (v := .tuple #[rzero, .int .i64 0]) ?_ rfl ⟨rfl, (Kept.refl _).alloc (Nat.le_refl _) _⟩
        simp [results, Tryd.results24, go_sem, rzero]
  · have e1 : ((s[k].toNat : Int) == 61) = true := by rw [c1]; rfl
    have e2 : decide ((k : Int) + 1 < (s.size : Int)) = false := decide_eq_false (by omega)
    clear c1
    go_enter Tryd.func24, Tryd.ntmps24
    go_wp2_with fail
    refine (L.out _).mono ?_
    rintro r w1 ⟨rfl, rfl⟩
    go_wp2_with fail
    refine (D.out _).mono ?_
    rintro r w1 ⟨rfl, rfl⟩
    go_wp2_with fail
    go_loop [10] (fun i => ∃ j : Nat, j ≤ 11 ∧ i = .int .i64 (j : Int)) (fun i => 11 - (intOf i).toNat)
    case atStart => exact ⟨0, Nat.zero_le _, rfl⟩
    case round =>
      obtain ⟨j, hj, rfl⟩ := hrel
      by_cases hjn : j < 11
      · have hj11 : j < 11 := by omega
        have hji : (j : Int) < 11 := by omega
        have hc := MS.out j hj11
        go_wp2
        go_round
        case rel => exact ⟨j + 1, by omega, by go_num⟩
        case measure => simp [intOf]; omega
      · obtain rfl : j = 11 := by omega
        go_wp2
        refine bodyPost_ret (v := .tuple #[rzero, .int .i64 0]) ?_ rfl ⟨rfl, (Kept.refl _).alloc (Nat.le_refl _) _⟩
        simp [results, Tryd.results24, go_sem, rzero]
  · have e1 : ((s[k].toNat : Int) == 61) = true := by rw [c1]; rfl
    have e2 : (k : Int) + 1 < (s.size : Int) := by omega
    have e3 : ((s[k + 1].toNat : Int) == 61) = false := ne_byte (n := 61) (by decide) c3
    clear c1 c3
    go_enter Tryd.func24, Tryd.ntmps24
    go_wp2_with fail
    refine (L.out _).mono ?_
    rintro r w1 ⟨rfl, rfl⟩
    go_wp2_with fail
    refine (D.out _).mono ?_
    rintro r w1 ⟨rfl, rfl⟩
    go_wp2_with fail
    go_loop [10] (fun i => ∃ j : Nat, j ≤ 11 ∧ i = .int .i64 (j : Int)) (fun i => 11 - (intOf i).toNat)
    case atStart => exact ⟨0, Nat.zero_le _, rfl⟩
    case round =>
      obtain ⟨j, hj, rfl⟩ := hrel
      by_cases hjn : j < 11
      · have hj11 : j < 11 := by omega
        have hji : (j : Int) < 11 := by omega
        have hc := MS.out j hj11
        go_wp2
        go_round
        case rel => exact ⟨j + 1, by omega, by go_num⟩
        case measure => simp [intOf]; omega
      · obtain rfl : j = 11 := by omega
        go_wp2
        refine bodyPost_ret (v := .tuple #[rzero, .int .i64 0]) ?_ rfl ⟨rfl, (Kept.refl _).alloc (Nat.le_refl _) _⟩
        simp [results, Tryd.results24, go_sem, rzero]

end Go.Proofs.YtfjeijjllgocdaaDoor
