/- Tk2 -/
import Derived.Test.YtnfkjmafhaecgaaYTk1

namespace Go.Proofs.Ytnfkjmafhaecgaa
open Go.RowKit
set_option maxHeartbeats 1000000 in
theorem rone_two (s : ByteArray) (k : Nat) (w : World) (hs : s.size ≤ 6000) (hk : k + 1 < s.size) (h1 : s[k] = 61) (h2 : s[k + 1] = 61) :
    Calls Try.prog 56 #[.string s, .int .i64 (k : Int)] w fun r w' => r = .returned (.tuple #[rtk s 3 k (k + 2) 0, .int .i64 2]) ∧ Kept w w' := by
  have hx : s.extract k (k + 2) = ⟨#[61, 61]⟩ := by
    rw [text_of s k (k + 2) (by omega) (by omega)]
    have hll : s.data.toList.length = s.size := by simp
    rw [Lx.drop_at _ k (by omega), Lx.drop_at _ (k + 1) (by omega), byte_at s k (by omega), byte_at s (k + 1) hk, h1, h2, show k + 2 - k = 2 by omega]
    rfl
  have HX : Hid (s.extract k (k + 2) = ⟨#[61, 61]⟩) := hx
  have L : Hid (∀ w, _) := letter_at s[k] false (by rw [h1]; decide)
  have D : Hid (∀ w, _) := digit_at s[k] false (by rw [h1]; decide)
  have e1 : ((s[k].toNat : Int) == 61) = true := by rw [h1]; rfl
  have e2 : ((s[k + 1].toNat : Int) == 61) = true := by rw [h2]; rfl
  have hki : (k : Int) + 1 < (s.size : Int) := by omega
  clear h1 h2 hx
  go_enter Try.func56, Try.ntmps56
  go_wp2_with fail
  refine (L.out _).mono ?_
  rintro r w1 ⟨rfl, rfl⟩
  go_wp2_with fail
  refine (D.out _).mono ?_
  rintro r w1 ⟨rfl, rfl⟩
  go_wp2
  refine bodyPost_ret (v := .tuple #[rtk s 3 k (k + 2) 0, .int .i64 2]) ?_ rfl ⟨rfl, (Kept.refl _).alloc (Nat.le_refl _) _⟩
  rw [rtk, HX.out]
  simp [results, Try.results56, go_sem]
set_option maxHeartbeats 2000000 in
theorem rone_hit (s : ByteArray) (k : Nat) (w : World) (hs : s.size ≤ 6000) (hk : k < s.size) (hl : Lx.lower s[k] = false) (hd : Lx.digit s[k] = false) (hne : s[k] ≠ 61 ∨ (s[k] = 61 ∧ ¬ k + 1 < s.size) ∨ (s[k] = 61 ∧ ∃ h : k + 1 < s.size, s[k + 1] ≠ 61)) (n : Nat) (hn : n < 11) (hit : (⟨#[61, 60, 43, 45, 42, 47, 37, 40, 41, 123, 125]⟩ : ByteArray)[n]'(by show n < 11; exact hn) = s[k]) (miss : ∀ i (hi : i < 11), i < n → (⟨#[61, 60, 43, 45, 42, 47, 37, 40, 41, 123, 125]⟩ : ByteArray)[i]'(by show i < 11; exact hi) ≠ s[k]) :
    Calls Try.prog 56 #[.string s, .int .i64 (k : Int)] w fun r w' => r = .returned (.tuple #[rtk s 3 k (k + 1) 0, .int .i64 1]) ∧ Kept w w' := by
  have L : Hid (∀ w, _) := letter_at s[k] false hl
  have D : Hid (∀ w, _) := digit_at s[k] false hd
  have hki : (k : Int) < (s.size : Int) := by omega
  have hb1 : (k : Int) ≤ (k : Int) + 1 := by omega
  have hb2 : (k : Int) + 1 ≤ (s.size : Int) := by omega
  have MS : Hid (∀ i (hi : i < 11), i < n → ((((⟨#[61, 60, 43, 45, 42, 47, 37, 40, 41, 123, 125]⟩ : ByteArray)[i]'(by show i < 11; exact hi)).toNat : Int) == (s[k].toNat : Int)) = false) := by
    intro i hi hin
    rw [beq_eq_false_iff_ne]
    intro e
    exact miss i hi hin (UInt8.toNat_inj.1 (by omega))
  have HT : Hid (((((⟨#[61, 60, 43, 45, 42, 47, 37, 40, 41, 123, 125]⟩ : ByteArray)[n]'(by show n < 11; exact hn)).toNat : Int) == (s[k].toNat : Int)) = true) := by
    show _ = _
    rw [hit]; simp
  clear hl hd miss hit
  rcases hne with c1 | ⟨c1, c2⟩ | ⟨c1, c2, c3⟩
  · have e1 : ((s[k].toNat : Int) == 61) = false := ne_byte (n := 61) (by decide) c1
    clear c1
    go_enter Try.func56, Try.ntmps56
    go_wp2_with fail
    refine (L.out _).mono ?_
    rintro r w1 ⟨rfl, rfl⟩
    go_wp2_with fail
    refine (D.out _).mono ?_
    rintro r w1 ⟨rfl, rfl⟩
    go_wp2_with fail
    go_loop [10] (fun i => ∃ j : Nat, j ≤ n ∧ i = .int .i64 (j : Int)) (fun i => 11 - (intOf i).toNat)
    case atStart => exact ⟨0, Nat.zero_le _, rfl⟩
    case round =>
      obtain ⟨j, hj, rfl⟩ := hrel
      by_cases hjn : j < n
      · have hj11 : j < 11 := by omega
        have hji : (j : Int) < 11 := by omega
        have hc := MS.out j hj11 hjn
        go_wp2
        go_round
        case rel => exact ⟨j + 1, by omega, by go_num⟩
        case measure => simp [intOf]; omega
      · obtain rfl : j = n := by omega
        have hji : (j : Int) < 11 := by omega
        have hc := HT.out
        go_wp2
        refine bodyPost_ret (v := .tuple #[rtk s 3 k (k + 1) 0, .int .i64 1]) ?_ rfl ⟨rfl, (Kept.refl _).alloc (Nat.le_refl _) _⟩
        simp [results, Try.results56, go_sem, rtk]
  · have e1 : ((s[k].toNat : Int) == 61) = true := by rw [c1]; rfl
    have e2 : decide ((k : Int) + 1 < (s.size : Int)) = false := decide_eq_false (by omega)
    clear c1
    go_enter Try.func56, Try.ntmps56
    go_wp2_with fail
    refine (L.out _).mono ?_
    rintro r w1 ⟨rfl, rfl⟩
    go_wp2_with fail
    refine (D.out _).mono ?_
    rintro r w1 ⟨rfl, rfl⟩
    go_wp2_with fail
    go_loop [10] (fun i => ∃ j : Nat, j ≤ n ∧ i = .int .i64 (j : Int)) (fun i => 11 - (intOf i).toNat)
    case atStart => exact ⟨0, Nat.zero_le _, rfl⟩
    case round =>
      obtain ⟨j, hj, rfl⟩ := hrel
      by_cases hjn : j < n
      · have hj11 : j < 11 := by omega
        have hji : (j : Int) < 11 := by omega
        have hc := MS.out j hj11 hjn
        go_wp2
        go_round
        case rel => exact ⟨j + 1, by omega, by go_num⟩
        case measure => simp [intOf]; omega
      · obtain rfl : j = n := by omega
        have hji : (j : Int) < 11 := by omega
        have hc := HT.out
        go_wp2
        refine bodyPost_ret (v := .tuple #[rtk s 3 k (k + 1) 0, .int .i64 1]) ?_ rfl ⟨rfl, (Kept.refl _).alloc (Nat.le_refl _) _⟩
        simp [results, Try.results56, go_sem, rtk]
  · have e1 : ((s[k].toNat : Int) == 61) = true := by rw [c1]; rfl
    have e2 : (k : Int) + 1 < (s.size : Int) := by omega
    have e3 : ((s[k + 1].toNat : Int) == 61) = false := ne_byte (n := 61) (by decide) c3
    clear c1 c3
    go_enter Try.func56, Try.ntmps56
    go_wp2_with fail
    refine (L.out _).mono ?_
    rintro r w1 ⟨rfl, rfl⟩
    go_wp2_with fail
    refine (D.out _).mono ?_
    rintro r w1 ⟨rfl, rfl⟩
    go_wp2_with fail
    go_loop [10] (fun i => ∃ j : Nat, j ≤ n ∧ i = .int .i64 (j : Int)) (fun i => 11 - (intOf i).toNat)
    case atStart => exact ⟨0, Nat.zero_le _, rfl⟩
    case round =>
      obtain ⟨j, hj, rfl⟩ := hrel
      by_cases hjn : j < n
      · have hj11 : j < 11 := by omega
        have hji : (j : Int) < 11 := by omega
        have hc := MS.out j hj11 hjn
        go_wp2
        go_round
        case rel => exact ⟨j + 1, by omega, by go_num⟩
        case measure => simp [intOf]; omega
      · obtain rfl : j = n := by omega
        have hji : (j : Int) < 11 := by omega
        have hc := HT.out
        go_wp2
        refine bodyPost_ret (v := .tuple #[rtk s 3 k (k + 1) 0, .int .i64 1]) ?_ rfl ⟨rfl, (Kept.refl _).alloc (Nat.le_refl _) _⟩
        simp [results, Try.results56, go_sem, rtk]
set_option maxHeartbeats 2000000 in
theorem rone_miss (s : ByteArray) (k : Nat) (w : World) (hs : s.size ≤ 6000) (hk : k < s.size) (hl : Lx.lower s[k] = false) (hd : Lx.digit s[k] = false) (hne : s[k] ≠ 61 ∨ (s[k] = 61 ∧ ¬ k + 1 < s.size) ∨ (s[k] = 61 ∧ ∃ h : k + 1 < s.size, s[k + 1] ≠ 61)) (miss : ∀ i (hi : i < 11), (⟨#[61, 60, 43, 45, 42, 47, 37, 40, 41, 123, 125]⟩ : ByteArray)[i]'(by show i < 11; exact hi) ≠ s[k]) :
    Calls Try.prog 56 #[.string s, .int .i64 (k : Int)] w fun r w' => r = .returned (.tuple #[rzero, .int .i64 0]) ∧ Kept w w' := by
  have L : Hid (∀ w, _) := letter_at s[k] false hl
  have D : Hid (∀ w, _) := digit_at s[k] false hd
  have hki : (k : Int) < (s.size : Int) := by omega
  have hb1 : (k : Int) ≤ (k : Int) + 1 := by omega
  have hb2 : (k : Int) + 1 ≤ (s.size : Int) := by omega
  have MS : Hid (∀ i (hi : i < 11), ((((⟨#[61, 60, 43, 45, 42, 47, 37, 40, 41, 123, 125]⟩ : ByteArray)[i]'(by show i < 11; exact hi)).toNat : Int) == (s[k].toNat : Int)) = false) := by
    intro i hi
    rw [beq_eq_false_iff_ne]
    intro e
    exact miss i hi (UInt8.toNat_inj.1 (by omega))
  clear hl hd miss
  rcases hne with c1 | ⟨c1, c2⟩ | ⟨c1, c2, c3⟩
  · have e1 : ((s[k].toNat : Int) == 61) = false := ne_byte (n := 61) (by decide) c1
    clear c1
    go_enter Try.func56, Try.ntmps56
    go_wp2_with fail
    refine (L.out _).mono ?_
    rintro r w1 ⟨rfl, rfl⟩
    go_wp2_with fail
    refine (D.out _).mono ?_
    rintro r w1 ⟨rfl, rfl⟩
    go_wp2_with fail
    go_loop [10] (fun i => ∃ j : Nat, j ≤ 11 ∧ i = .int .i64 (j : Int)) (fun i => 11 - (intOf i).toNat)
    case atStart => exact ⟨0, Nat.zero_le _, rfl⟩
    case round =>
      obtain ⟨j, hj, rfl⟩ := hrel
      by_cases hjn : j < 11
      · have hj11 : j < 11 := by omega
        have hji : (j : Int) < 11 := by omega
        have hc := MS.out j hj11
        go_wp2
        go_round
        case rel => exact ⟨j + 1, by omega, by go_num⟩
        case measure => simp [intOf]; omega
      · obtain rfl : j = 11 := by omega
        go_wp2
        refine bodyPost_ret (v := .tuple #[rzero, .int .i64 0]) ?_ rfl ⟨rfl, (Kept.refl _).alloc (Nat.le_refl _) _⟩
        simp [results, Try.results56, go_sem, rzero]
  · have e1 : ((s[k].toNat : Int) == 61) = true := by rw [c1]; rfl
    have e2 : decide ((k : Int) + 1 < (s.size : Int)) = false := decide_eq_false (by omega)
    clear c1
    go_enter Try.func56, Try.ntmps56
    go_wp2_with fail
    refine (L.out _).mono ?_
    rintro r w1 ⟨rfl, rfl⟩
    go_wp2_with fail
    refine (D.out _).mono ?_
    rintro r w1 ⟨rfl, rfl⟩
    go_wp2_with fail
    go_loop [10] (fun i => ∃ j : Nat, j ≤ 11 ∧ i = .int .i64 (j : Int)) (fun i => 11 - (intOf i).toNat)
    case atStart => exact ⟨0, Nat.zero_le _, rfl⟩
    case round =>
      obtain ⟨j, hj, rfl⟩ := hrel
      by_cases hjn : j < 11
      · have hj11 : j < 11 := by omega
        have hji : (j : Int) < 11 := by omega
        have hc := MS.out j hj11
        go_wp2
        go_round
        case rel => exact ⟨j + 1, by omega, by go_num⟩
        case measure => simp [intOf]; omega
      · obtain rfl : j = 11 := by omega
        go_wp2
        refine bodyPost_ret (v := .tuple #[rzero, .int .i64 0]) ?_ rfl ⟨rfl, (Kept.refl _).alloc (Nat.le_refl _) _⟩
        simp [results, Try.results56, go_sem, rzero]
  · have e1 : ((s[k].toNat : Int) == 61) = true := by rw [c1]; rfl
    have e2 : (k : Int) + 1 < (s.size : Int) := by omega
    have e3 : ((s[k + 1].toNat : Int) == 61) = false := ne_byte (n := 61) (by decide) c3
    clear c1 c3
    go_enter Try.func56, Try.ntmps56
    go_wp2_with fail
    refine (L.out _).mono ?_
    rintro r w1 ⟨rfl, rfl⟩
    go_wp2_with fail
    refine (D.out _).mono ?_
    rintro r w1 ⟨rfl, rfl⟩
    go_wp2_with fail
    go_loop [10] (fun i => ∃ j : Nat, j ≤ 11 ∧ i = .int .i64 (j : Int)) (fun i => 11 - (intOf i).toNat)
    case atStart => exact ⟨0, Nat.zero_le _, rfl⟩
    case round =>
      obtain ⟨j, hj, rfl⟩ := hrel
      by_cases hjn : j < 11
      · have hj11 : j < 11 := by omega
        have hji : (j : Int) < 11 := by omega
        have hc := MS.out j hj11
        go_wp2
        go_round
        case rel => exact ⟨j + 1, by omega, by go_num⟩
        case measure => simp [intOf]; omega
      · obtain rfl : j = 11 := by omega
        go_wp2
        refine bodyPost_ret (v := .tuple #[rzero, .int .i64 0]) ?_ rfl ⟨rfl, (Kept.refl _).alloc (Nat.le_refl _) _⟩
        simp [results, Try.results56, go_sem, rzero]
theorem sign_in (c : UInt8) : Lx.signs.contains c = true ↔ ∃ i, ∃ hi : i < 11, (⟨#[61, 60, 43, 45, 42, 47, 37, 40, 41, 123, 125]⟩ : ByteArray)[i]'(by show i < 11; exact hi) = c := by
  constructor
  · intro h
    simp only [Lx.signs, List.contains_eq_mem, List.mem_cons, List.not_mem_nil, or_false, decide_eq_true_eq] at h
    rcases h with rfl | rfl | rfl | rfl | rfl | rfl | rfl | rfl | rfl | rfl | rfl
    · exact ⟨0, by decide, rfl⟩
    · exact ⟨1, by decide, rfl⟩
    · exact ⟨2, by decide, rfl⟩
    · exact ⟨3, by decide, rfl⟩
    · exact ⟨4, by decide, rfl⟩
    · exact ⟨5, by decide, rfl⟩
    · exact ⟨6, by decide, rfl⟩
    · exact ⟨7, by decide, rfl⟩
    · exact ⟨8, by decide, rfl⟩
    · exact ⟨9, by decide, rfl⟩
    · exact ⟨10, by decide, rfl⟩
  · rintro ⟨i, hi, rfl⟩
    match i, hi with
    | 0, _ => rfl
    | 1, _ => rfl
    | 2, _ => rfl
    | 3, _ => rfl
    | 4, _ => rfl
    | 5, _ => rfl
    | 6, _ => rfl
    | 7, _ => rfl
    | 8, _ => rfl
    | 9, _ => rfl
    | 10, _ => rfl
theorem hit_least (s : ByteArray) (k : Nat) (hk : k < s.size) (h : Lx.signs.contains s[k] = true) : ∃ n, ∃ hn : n < 11, (⟨#[61, 60, 43, 45, 42, 47, 37, 40, 41, 123, 125]⟩ : ByteArray)[n]'(by show n < 11; exact hn) = s[k] ∧ ∀ i (hi : i < 11), i < n → (⟨#[61, 60, 43, 45, 42, 47, 37, 40, 41, 123, 125]⟩ : ByteArray)[i]'(by show i < 11; exact hi) ≠ s[k] := by
  obtain ⟨j, hj, e⟩ := (sign_in s[k]).1 h
  obtain ⟨n, hn, hx, hlt⟩ := least (fun i => ∀ hi : i < 11, (⟨#[61, 60, 43, 45, 42, 47, 37, 40, 41, 123, 125]⟩ : ByteArray)[i]'(by show i < 11; exact hi) ≠ s[k]) 11 ⟨j, hj, fun h => h hj e⟩
  refine ⟨n, hn, ?_, fun i hi hin => hlt i hin hi⟩
  apply Classical.byContradiction
  intro hne
  exact hx fun _ => hne
/-- What one tells. -/
def OneIs (s : ByteArray) (k : Nat) (v l : Value) : Prop :=
  match Lx.one (s.data.toList.drop k) with
  | some (kd, len, n) => v = rtk s kd k (k + len) n ∧ l = .int .i64 (len : Int) ∧ 1 ≤ len ∧ k + len ≤ s.size
  | none => v = rzero ∧ l = .int .i64 0
theorem rone_any (s : ByteArray) (k : Nat) (w : World) (hs : s.size ≤ 6000) (hk : k < s.size) :
    Calls Try.prog 56 #[.string s, .int .i64 (k : Int)] w fun r w' => (∃ v l, r = .returned (.tuple #[v, l]) ∧ OneIs s k v l) ∧ Kept w w' := by
  have hll : s.data.toList.length = s.size := by simp
  unfold OneIs
  cases hl : Lx.lower s[k] with
  | true =>
    obtain ⟨e, he⟩ : ∃ e, Lx.span Lx.goes s.data.toList (k + 1) = e + 1 := ⟨Lx.span Lx.goes s.data.toList (k + 1) - 1, by have := Lx.le_span Lx.goes s.data.toList (k + 1); omega⟩
    have h1 := Lx.le_span Lx.goes s.data.toList (k + 1)
    have h2 := Lx.span_le Lx.goes s.data.toList (k + 1) (by omega)
    have ho := one_word hk hl (by omega : k ≤ e) he
    rw [ho]
    by_cases h12 : e + 1 - k ≤ 12
    · rw [if_pos h12]
      refine (rone_word s k e w hs hk hl (by omega) (by omega) he h12).mono fun r w' ⟨hr, hw⟩ => ⟨⟨_, _, hr, ?_⟩, hw⟩
      simp only []
      exact ⟨by rw [show k + (e + 1 - k) = e + 1 by omega], trivial, by omega, by omega⟩
    · rw [if_neg h12]
      exact (rone_long s k e w hs hk hl (by omega) (by omega) he (by omega)).mono fun r w' ⟨hr, hw⟩ => ⟨⟨_, _, hr, rfl, rfl⟩, hw⟩
  | false =>
    cases hd : Lx.digit s[k] with
    | true =>
      obtain ⟨e, he⟩ : ∃ e, Lx.span Lx.digit s.data.toList (k + 1) = e + 1 := ⟨Lx.span Lx.digit s.data.toList (k + 1) - 1, by have := Lx.le_span Lx.digit s.data.toList (k + 1); omega⟩
      have h1 := Lx.le_span Lx.digit s.data.toList (k + 1)
      have h2 := Lx.span_le Lx.digit s.data.toList (k + 1) (by omega)
      obtain ⟨o, ho⟩ : ∃ o, Lx.num (s.extract k (e + 1)).data.toList = o := ⟨_, rfl⟩
      have hone := one_number hk hl hd (by omega : k ≤ e) (by omega) he ho
      have dg := digits_of hk hd (by omega : k ≤ e) (by omega) he
      have hN := fun w => dnumber_any (s.extract k (e + 1)) o dg.2.1 dg.2.2.1 (by have := dg.2.2.2; omega) ho w
      rw [hone]
      cases o with
      | some m =>
        refine (rone_num s k e w hs hk hl hd (by omega) (by omega) he m (fun w => (hN w).mono fun r w' ⟨⟨v, h1, h2⟩, h3⟩ => ⟨⟨v, h1, h2 m rfl⟩, h3⟩)).mono fun r w' ⟨hr, hw⟩ => ⟨⟨_, _, hr, ?_⟩, hw⟩
        simp only [Option.map_some]
        exact ⟨by rw [show k + (e + 1 - k) = e + 1 by omega], trivial, by omega, by omega⟩
      | none =>
        exact (rone_none s k e w hs hk hl hd (by omega) (by omega) he (fun w => (hN w).mono fun r w' ⟨⟨v, h1, _⟩, h3⟩ => ⟨⟨v, h1⟩, h3⟩)).mono fun r w' ⟨hr, hw⟩ => ⟨⟨_, _, hr, rfl, rfl⟩, hw⟩
    | false =>
      have hone : Lx.one (s.data.toList.drop k) = if s[k] = 61 ∧ (s.data.toList.drop (k + 1)).head? = some 61 then some (3, 2, 0) else if Lx.signs.contains s[k] then some (3, 1, 0) else none := by
        rw [Lx.drop_at _ k (by omega), Lx.one_cons, byte_at s k hk, if_neg (by rw [hl]; decide), if_neg (by rw [hd]; decide)]
      have hhead : ∀ h : k + 1 < s.size, (s.data.toList.drop (k + 1)).head? = some s[k + 1] := fun h => by
        rw [Lx.drop_at _ (k + 1) (by omega), byte_at s (k + 1) h]; rfl
      have hend : ¬ k + 1 < s.size → (s.data.toList.drop (k + 1)).head? = none := fun h => by
        rw [List.drop_of_length_le (by omega)]; rfl
      rw [hone]
      by_cases c2 : s[k] = 61 ∧ (s.data.toList.drop (k + 1)).head? = some 61
      · rw [if_pos c2]
        have hk1 : k + 1 < s.size := by
          apply Classical.byContradiction; intro h; rw [hend h] at c2; cases c2.2
        have h61 : s[k + 1] = 61 := by rw [hhead hk1] at c2; exact Option.some.inj c2.2
        exact (rone_two s k w hs hk1 c2.1 h61).mono fun r w' ⟨hr, hw⟩ => ⟨⟨_, _, hr, rfl, rfl, by omega, by omega⟩, hw⟩
      · rw [if_neg c2]
        have hne : s[k] ≠ 61 ∨ (s[k] = 61 ∧ ¬ k + 1 < s.size) ∨ (s[k] = 61 ∧ ∃ h : k + 1 < s.size, s[k + 1] ≠ 61) := by
          by_cases c : s[k] = 61
          · by_cases h : k + 1 < s.size
            · exact .inr (.inr ⟨c, h, fun e => c2 ⟨c, by rw [hhead h, e]⟩⟩)
            · exact .inr (.inl ⟨c, h⟩)
          · exact .inl c
        by_cases hc : Lx.signs.contains s[k] = true
        · rw [if_pos hc]
          obtain ⟨n, hn, hit, miss⟩ := hit_least s k hk hc
          exact (rone_hit s k w hs hk hl hd hne n hn hit miss).mono fun r w' ⟨hr, hw⟩ => ⟨⟨_, _, hr, rfl, rfl, by omega, by omega⟩, hw⟩
        · rw [if_neg hc]
          exact (rone_miss s k w hs hk hl hd hne fun i hi e => hc ((sign_in s[k]).2 ⟨i, hi, e⟩)).mono fun r w' ⟨hr, hw⟩ => ⟨⟨_, _, hr, rfl, rfl⟩, hw⟩
def rCells (t : Lx.Tk) : List Value := [.int .i64 (t.kind : Int), .string ⟨t.text.toArray⟩, .int .i64 (t.n : Int), .int .i64 (t.at' : Int)]
def rCellsOf (ts : List Lx.Tk) : List Value := ts.flatMap rCells
theorem rCellsOf_snoc (ts : List Lx.Tk) (t : Lx.Tk) : rCellsOf (ts ++ [t]) = rCellsOf ts ++ rCells t := by simp [rCellsOf]
theorem rtok_info : ∃ i, Try.prog.info? 99 = some i ∧ i.zero = some (.agg #[.int .i64 0, .string ⟨#[]⟩, .int .i64 0, .int .i64 0]) ∧ i.size = 4 ∧ i.bytes = 40 := by
  have h : (Try.prog.info? 99).map (fun i => (i.zero, i.size, i.bytes)) = some (some (.agg #[.int .i64 0, .string ⟨#[]⟩, .int .i64 0, .int .i64 0]), 4, 40) := by kernel_rfl
  cases hi : Try.prog.info? 99 with
  | none => rw [hi] at h; cases h
  | some i =>
    rw [hi] at h
    simp only [Option.map_some, Option.some.injEq, Prod.mk.injEq] at h
    exact ⟨i, rfl, h.1, h.2.1, h.2.2⟩
/-- What is told. -/
def RTold (w0 : World) (R : Lx.Out) (v p e : Value) (w : World) : Prop :=
  match R with
  | .bad q => v = .slice none 0 0 ∧ p = .int .i64 (q : Int) ∧ e = .int .i64 2 ∧ Kept w0 w
  | .good ts => p = .int .i64 0 ∧ e = .int .i64 0 ∧ w.ownsRow w0.heap.size 99 4 v ts.length (rCellsOf ts) ∧ Kept w0 w
/-- The tokens so far. -/
structure RInv (s : ByteArray) (w0 : World) (R : Lx.Out) (p : Nat) (acc : List Lx.Tk) (f : Nat) (list : Value) (w : World) : Prop where
  ps : p ≤ s.size
  fuel : s.size < f + p
  run : (Lx.run f p (s.data.toList.drop p)).pre acc = R
  own : w.ownsRow w0.heap.size 99 4 list acc.length (rCellsOf acc)
  bel : Kept w0 w
  acl : acc.length ≤ p
theorem RInv.kept {s : ByteArray} {w0 : World} {R : Lx.Out} {p : Nat} {acc : List Lx.Tk} {f : Nat} {list : Value} {w w1 : World} (h : RInv s w0 R p acc f list w) (k : Kept w w1) : RInv s w0 R p acc f list w1 :=
  { h with own := own_kept h.own k, bel := h.bel.then k }
theorem RInv.fuel1 {s : ByteArray} {w0 : World} {R : Lx.Out} {p : Nat} {acc : List Lx.Tk} {f : Nat} {list : Value} {w : World} (h : RInv s w0 R p acc f list w) (hk : p < s.size) : ∃ g, f = g + 1 := ⟨f - 1, by have := h.fuel; omega⟩
theorem RInv.blank {s : ByteArray} {w0 : World} {R : Lx.Out} {k : Nat} {acc : List Lx.Tk} {f : Nat} {list : Value} {w : World} (h : RInv s w0 R k acc f list w) (hk : k < s.size) (hb : Lx.blank s[k] = true) : ∃ g, RInv s w0 R (k + 1) acc g list w := by
  obtain ⟨g, rfl⟩ := h.fuel1 hk
  have hl : k < s.data.toList.length := by simpa using hk
  have hf := h.fuel
  have ha := h.acl
  refine ⟨g, hk, by omega, ?_, h.own, h.bel, by omega⟩
  rw [← Lx.step_blank s.data.toList g k acc hl (by rw [byte_at s k hk]; exact hb)]; exact h.run
theorem RInv.note {s : ByteArray} {w0 : World} {R : Lx.Out} {k : Nat} {acc : List Lx.Tk} {f : Nat} {list : Value} {w : World} (h : RInv s w0 R k acc f list w) (hk : k < s.size) (hn : s[k] = 35) : ∃ g, RInv s w0 R (Lx.span Lx.noFeed s.data.toList k) acc g list w := by
  obtain ⟨g, rfl⟩ := h.fuel1 hk
  have hl : k < s.data.toList.length := by simpa using hk
  have e2 : s.data.toList[k] = 35 := (byte_at s k hk).trans hn
  have hf := h.fuel
  have ha := h.acl
  have hsp := Lx.span_yes Lx.noFeed s.data.toList k hl (by rw [e2]; decide)
  have h1 := Lx.le_span Lx.noFeed s.data.toList (k + 1)
  have h2 := Lx.span_le Lx.noFeed s.data.toList (k + 1) (by omega)
  have hll : s.data.toList.length = s.size := by simp
  refine ⟨g, by omega, by omega, ?_, h.own, h.bel, by omega⟩
  rw [hsp, ← Lx.step_note s.data.toList g k acc hl e2]; exact h.run
end Go.Proofs.Ytnfkjmafhaecgaa
