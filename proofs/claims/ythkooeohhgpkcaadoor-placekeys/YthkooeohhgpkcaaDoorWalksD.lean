/- PlaceKnown and the little statement 'known' that all others begin with: both answer true, at whatever memory in which the table of powers of ten lies as the program's text lays it. -/
import Derived.Test.YthkooeohhgpkcaaDoorWalksC
namespace Go.Proofs.YthkooeohhgpkcaaDoor
open Go.RowKit

theorem of_at (s : ByteArray) (a : Int) (X Y : Nat) (hs : s.size ≤ 281474976710656) (hX : Fp.rung (Sp.spot (s.data.toList.take (clampAt a s.size))).1 = X) (hY : Fp.rung (Sp.spot (s.data.toList.take (clampAt a s.size))).2 = Y) (w : World) :
    Calls Tryd.prog 11 #[.string s, .int .i64 a] w fun e w' => e = .returned (.complex .f64 X Y) ∧ w' = w := by
  have := of_any s a w hs
  unfold cplx at this
  rwa [hX, hY] at this

theorem less_at (a b c d : Nat) (r : Bool) (h : (if Ieee.double.order a c == some .eq then Ieee.double.order b d == some .lt else Ieee.double.order a c == some .lt) = r) (w : World) :
    Calls Tryd.prog 13 #[.complex .f64 a b, .complex .f64 c d] w fun e w' => e = .returned (.bool r) ∧ w' = w := by
  have := less_any a b c d w
  rwa [h] at this

theorem print_at (x y a b : Nat) (S : ByteArray) (w : World) (ha : a ≤ 4294967296) (hb : b ≤ 4294967296) (ht : Tab w)
    (hx : ∀ w, Calls Tryd.prog 22 #[.float .f64 x] w fun e w' => e = .returned (.int .i64 (a : Int)) ∧ w' = w)
    (hy : ∀ w, Calls Tryd.prog 22 #[.float .f64 y] w fun e w' => e = .returned (.int .i64 (b : Int)) ∧ w' = w) (hS : dig a ++ ⟨#[58]⟩ ++ dig b = S) :
    Calls Tryd.prog 12 #[.complex .f64 x y] w fun e w' => e = .returned (.string S) ∧ Kept w w' := by
  have := print_of x y a b w ha hb ht hx hy
  rwa [hS] at this

theorem dig_one (i : Nat) (h : i < 10) : dig i = ⟨#[UInt8.ofNat (48 + i)]⟩ := by unfold dig; rw [Lib.decDigits_one h]
theorem dig_two (i : Nat) (h1 : ¬ i < 10) (h2 : i < 100) : dig i = ⟨#[UInt8.ofNat (48 + i / 10), UInt8.ofNat (48 + i % 10)]⟩ := by unfold dig; rw [Lib.decDigits_two h1 h2]

theorem whole2 (w : World) : Calls Tryd.prog 22 #[.float .f64 4611686018427387904] w fun e w' => e = .returned (.int .i64 ((2 : Nat) : Int)) ∧ w' = w :=
  whole_num _ _ w (by decide +kernel) (by decide +kernel) (by decide +kernel) (by decide +kernel)
theorem whole1 (w : World) : Calls Tryd.prog 22 #[.float .f64 4607182418800017408] w fun e w' => e = .returned (.int .i64 ((1 : Nat) : Int)) ∧ w' = w :=
  whole_num _ _ w (by decide +kernel) (by decide +kernel) (by decide +kernel) (by decide +kernel)

theorem print21 (w : World) (ht : Tab w) : Calls Tryd.prog 12 #[.complex .f64 4611686018427387904 4607182418800017408] w fun e w' => e = .returned (.string ⟨#[50, 58, 49]⟩) ∧ Kept w w' :=
  print_at _ _ 2 1 _ w (by decide) (by decide) ht whole2 whole1 (by rw [dig_one 2 (by decide), dig_one 1 (by decide)]; decide +kernel)

theorem of3 (w : World) : Calls Tryd.prog 11 #[.string ⟨#[97, 98, 10, 99]⟩, .int .i64 3] w fun e w' => e = .returned (.complex .f64 4611686018427387904 4607182418800017408) ∧ w' = w :=
  of_at _ _ _ _ (by decide) (by decide +kernel) (by decide +kernel) w
theorem of0 (w : World) : Calls Tryd.prog 11 #[.string ⟨#[]⟩, .int .i64 0] w fun e w' => e = .returned (.complex .f64 4607182418800017408 4607182418800017408) ∧ w' = w :=
  of_at _ _ _ _ (by decide) (by decide +kernel) (by decide +kernel) w

theorem same_self {P : Program} (a b : Nat) (h : same a b a b = true) (w : World) : (binOp .eql 24 (.complex .f64 a b) (.complex .f64 a b)).run P w = .ok (.bool true) w := by rw [run_same, h]

set_option maxHeartbeats 400000 in
theorem known_any (w : World) (ht : Tab w) : Calls Tryd.prog 10 #[] w fun e w' => e = .returned (.bool true) ∧ Kept w w' := by
  have HT : Hid (Tab w) := ht
  clear ht
  have e1 : ∀ w, _ := same_self (P := Tryd.prog) 4611686018427387904 4607182418800017408 (by decide +kernel)
  have e2 : ∀ w, _ := same_self (P := Tryd.prog) 4607182418800017408 4607182418800017408 (by decide +kernel)
  go_enter Tryd.func10, Tryd.ntmps10
  go_wp2_with fail
  refine (print21 _ HT.out).mono ?_
  rintro e w1 ⟨rfl, q1⟩
  have Q1 : Hid (Kept _ _) := q1
  clear q1
  go_wp2_with fail
  refine (of3 _).mono ?_
  rintro e w2 ⟨rfl, rfl⟩
  go_wp2_with fail
  refine (of0 _).mono ?_
  rintro e w2 ⟨rfl, rfl⟩
  go_wp2
  go_ret
  exact ⟨rfl, Q1.out⟩

theorem backA (w : World) : Calls Tryd.prog 9 #[.string ⟨#[97, 98, 10, 99]⟩, .complex .f64 4607182418800017408 4613937818241073152] w fun e w' => e = .returned (.tuple #[.int .i64 2, .bool true]) ∧ w' = w :=
  back_hit _ _ _ 2 w (by decide) (by decide) (by decide +kernel) (by decide +kernel)
theorem miss_of (s : ByteArray) (x y n : Nat) (hn : s.size + 1 = n) (h : ∀ j, j < n → same (lineW s j) (colW s j) x y = false) : ∀ j, j ≤ s.size → same (lineW s j) (colW s j) x y = false := fun j hj => h j (by omega)
theorem backB (w : World) : Calls Tryd.prog 9 #[.string ⟨#[97, 98, 10, 99]⟩, .complex .f64 4607182418800017408 4616189618054758400] w fun e w' => e = .returned (.tuple #[.int .i64 0, .bool false]) ∧ w' = w :=
  back_miss _ _ _ w (by decide) (miss_of _ _ _ 5 (by decide) (by decide +kernel))
theorem backC (w : World) : Calls Tryd.prog 9 #[.string ⟨#[97, 98, 10, 99]⟩, .complex .f64 4609434218613702656 4607182418800017408] w fun e w' => e = .returned (.tuple #[.int .i64 0, .bool false]) ∧ w' = w :=
  back_miss _ _ _ w (by decide) (miss_of _ _ _ 5 (by decide) (by decide +kernel))
theorem backD (w : World) : Calls Tryd.prog 9 #[.string ⟨#[97, 98, 10]⟩, .complex .f64 4611686018427387904 4607182418800017408] w fun e w' => e = .returned (.tuple #[.int .i64 3, .bool true]) ∧ w' = w :=
  back_hit _ _ _ 3 w (by decide) (by decide) (by decide +kernel) (by decide +kernel)
theorem ofLow (w : World) : Calls Tryd.prog 11 #[.string ⟨#[97, 98, 10, 99]⟩, .int .i64 (-5)] w fun e w' => e = .returned (.complex .f64 4607182418800017408 4607182418800017408) ∧ w' = w :=
  of_at _ _ _ _ (by decide) (by decide +kernel) (by decide +kernel) w
theorem ofHigh (w : World) : Calls Tryd.prog 11 #[.string ⟨#[97, 98, 10, 99]⟩, .int .i64 99] w fun e w' => e = .returned (.complex .f64 4611686018427387904 4611686018427387904) ∧ w' = w :=
  of_at _ _ _ _ (by decide) (by decide +kernel) (by decide +kernel) w
theorem ofFeeds (w : World) : Calls Tryd.prog 11 #[.string ⟨#[10, 10]⟩, .int .i64 2] w fun e w' => e = .returned (.complex .f64 4613937818241073152 4607182418800017408) ∧ w' = w :=
  of_at _ _ _ _ (by decide) (by decide +kernel) (by decide +kernel) w

theorem whole12 (w : World) : Calls Tryd.prog 22 #[.float .f64 4622945017495814144] w fun e w' => e = .returned (.int .i64 ((12 : Nat) : Int)) ∧ w' = w :=
  whole_num _ _ w (by decide +kernel) (by decide +kernel) (by decide +kernel) (by decide +kernel)
theorem whole7 (w : World) : Calls Tryd.prog 22 #[.float .f64 4619567317775286272] w fun e w' => e = .returned (.int .i64 ((7 : Nat) : Int)) ∧ w' = w :=
  whole_num _ _ w (by decide +kernel) (by decide +kernel) (by decide +kernel) (by decide +kernel)
theorem wholeMinus (w : World) : Calls Tryd.prog 22 #[.float .f64 13830554455654793216] w fun e w' => e = .returned (.int .i64 ((0 : Nat) : Int)) ∧ w' = w :=
  whole_num _ _ w (by decide +kernel) (by decide +kernel) (by decide +kernel) (by decide +kernel)
theorem whole29 (w : World) : Calls Tryd.prog 22 #[.float .f64 4613712638259704627] w fun e w' => e = .returned (.int .i64 ((2 : Nat) : Int)) ∧ w' = w :=
  whole_num _ _ w (by decide +kernel) (by decide +kernel) (by decide +kernel) (by decide +kernel)
theorem wholeBig (w : World) : Calls Tryd.prog 22 #[.float .f64 9094988921128908188] w fun e w' => e = .returned (.int .i64 ((2147483648 : Nat) : Int)) ∧ w' = w :=
  whole_num _ _ w (by decide +kernel) (by decide +kernel) (by decide +kernel) (by decide +kernel)

theorem print127 (w : World) (ht : Tab w) : Calls Tryd.prog 12 #[.complex .f64 4622945017495814144 4619567317775286272] w fun e w' => e = .returned (.string ⟨#[49, 50, 58, 55]⟩) ∧ Kept w w' :=
  print_at _ _ 12 7 _ w (by decide) (by decide) ht whole12 whole7 (by rw [dig_two 12 (by decide) (by decide), dig_one 7 (by decide)]; decide +kernel)
theorem print02 (w : World) (ht : Tab w) : Calls Tryd.prog 12 #[.complex .f64 13830554455654793216 4613712638259704627] w fun e w' => e = .returned (.string ⟨#[48, 58, 50]⟩) ∧ Kept w w' :=
  print_at _ _ 0 2 _ w (by decide) (by decide) ht wholeMinus whole29 (by rw [dig_one 0 (by decide), dig_one 2 (by decide)]; decide +kernel)

/-- The digits of 2^31. -/
theorem dig_step (n : Nat) (h : ¬ n < 10) : Lib.decDigits n = Lib.decDigits (n / 10) ++ [UInt8.ofNat (48 + n % 10)] := by rw [Lib.decDigits, dif_neg h]
theorem dig_big : dig 2147483648 = ⟨#[50, 49, 52, 55, 52, 56, 51, 54, 52, 56]⟩ := by
  unfold dig
  rw [dig_step 2147483648 (by decide), dig_step (2147483648 / 10) (by decide), dig_step (2147483648 / 10 / 10) (by decide), dig_step (2147483648 / 10 / 10 / 10) (by decide), dig_step (2147483648 / 10 / 10 / 10 / 10) (by decide),
    dig_step (2147483648 / 10 / 10 / 10 / 10 / 10) (by decide), dig_step (2147483648 / 10 / 10 / 10 / 10 / 10 / 10) (by decide), dig_step (2147483648 / 10 / 10 / 10 / 10 / 10 / 10 / 10) (by decide),
    dig_step (2147483648 / 10 / 10 / 10 / 10 / 10 / 10 / 10 / 10) (by decide), Lib.decDigits_one (i := 2147483648 / 10 / 10 / 10 / 10 / 10 / 10 / 10 / 10 / 10) (by decide)]
  decide +kernel

/-- What 0 / 0 gives: some number that is none. -/
def nanAt (w : World) : Nat := (Question.nanBits .f64 0 0).cut (w.tape w.drawn (.nanBits .f64 0 0))

theorem run_nan {P : Program} (w : World) : (binOp .quo 25 (.float .f64 0) (.float .f64 0)).run P w = .ok (.float .f64 (nanAt w)) w.drew := by
  have h : FloatKind.f64.format.div 0 0 = none := by decide +kernel
  simp [binOp, Op.floatArith, h, nanAt, Question.forced]

theorem nan_word (q r : Nat) (hr : r < 4503599627370495) : ∃ s f, Ieee.double.read (q * 9223372036854775808 + 9218868437227405312 + 1 + r) = .nan s f := by
  have e : (q * 9223372036854775808 + 9218868437227405312 + 1 + r) % 9223372036854775808 = 9218868437227405312 + 1 + r := by omega
  have d1 : Ieee.double.signWeight = 9223372036854775808 := by decide +kernel
  have d2 : Ieee.double.binade = 4503599627370496 := by decide +kernel
  have d3 : Ieee.double.infRung = 9218868437227405312 := by decide +kernel
  unfold Ieee.Format.read
  simp only [d1, d2, d3, e]
  rw [if_neg (by omega), if_neg (by omega), if_neg (by omega)]
  exact ⟨_, _, rfl⟩

theorem nan_cut (t : Nat) : (Question.nanBits .f64 0 0).cut t = (t % 2) * 9223372036854775808 + 9218868437227405312 + 1 + (t / 2) % 4503599627370495 := by
  have a : (2 : Nat) ^ 63 = 9223372036854775808 := by decide
  have b : (2 : Nat) ^ 52 - 1 = 4503599627370495 := by decide
  simp only [Question.cut, a, b]

theorem nan_read (w : World) : ∃ s f, Ieee.double.read (nanAt w) = .nan s f := by
  unfold nanAt
  generalize w.tape w.drawn (.nanBits .f64 0 0) = t
  rw [nan_cut]
  exact nan_word _ _ (Nat.mod_lt _ (by decide))

theorem order_nan (x y : Ieee.Datum) (h : ∃ s f, x = .nan s f) : x.order y = none := by
  obtain ⟨s, f, rfl⟩ := h
  cases y <;> rfl

theorem nan_order (w : World) (y : Nat) : Ieee.double.order (nanAt w) y = none := order_nan _ _ (nan_read w)

theorem printNan (v w : World) (ht : Tab w) : Calls Tryd.prog 12 #[.complex .f64 9094988921128908188 (nanAt v)] w fun e w' => e = .returned (.string ⟨#[50, 49, 52, 55, 52, 56, 51, 54, 52, 56, 58, 48]⟩) ∧ Kept w w' :=
  print_at _ _ 2147483648 0 _ w (by decide) (by decide) ht wholeBig (fun w => whole_nan _ w (nan_order v _)) (by rw [dig_big, dig_one 0 (by decide)]; decide +kernel)

theorem lessA (w : World) : Calls Tryd.prog 13 #[.complex .f64 4607182418800017408 4621256167635550208, .complex .f64 4611686018427387904 4607182418800017408] w fun e w' => e = .returned (.bool true) ∧ w' = w :=
  less_at _ _ _ _ _ (by decide +kernel) w
theorem lessB (w : World) : Calls Tryd.prog 13 #[.complex .f64 4611686018427387904 4607182418800017408, .complex .f64 4611686018427387904 4613937818241073152] w fun e w' => e = .returned (.bool true) ∧ w' = w :=
  less_at _ _ _ _ _ (by decide +kernel) w
theorem lessC (w : World) : Calls Tryd.prog 13 #[.complex .f64 4611686018427387904 4613937818241073152, .complex .f64 4611686018427387904 4613937818241073152] w fun e w' => e = .returned (.bool false) ∧ w' = w :=
  less_at _ _ _ _ _ (by decide +kernel) w
theorem lessNan (v w : World) : Calls Tryd.prog 13 #[.complex .f64 (nanAt v) 4607182418800017408, .complex .f64 4611686018427387904 4607182418800017408] w fun e w' => e = .returned (.bool false) ∧ w' = w :=
  less_at _ _ _ _ _ (by rw [nan_order]; rfl) w

theorem Kept.drew {a b : World} (h : Kept a b) : Kept a b.drew := Below.drew h

set_option maxHeartbeats 1000000 in
theorem placeKnown_any (w : World) (ht : Tab w) : Calls Tryd.prog 3 #[] w fun e w' => e = .returned (.bool true) ∧ Kept w w' := by
  have HT : Hid (Tab w) := ht
  clear ht
  have e1 : ∀ w, _ := same_self (P := Tryd.prog) 4607182418800017408 4607182418800017408 (by decide +kernel)
  have e2 : ∀ w, _ := same_self (P := Tryd.prog) 4611686018427387904 4611686018427387904 (by decide +kernel)
  have e3 : ∀ w, _ := same_self (P := Tryd.prog) 4613937818241073152 4607182418800017408 (by decide +kernel)
  have en : ∀ w, _ := run_nan (P := Tryd.prog)
  go_enter Tryd.func3, Tryd.ntmps3
  go_wp2_with fail
  refine (backA _).mono ?_
  rintro e w1 ⟨rfl, rfl⟩
  go_wp2_with fail
  refine (backB _).mono ?_
  rintro e w1 ⟨rfl, rfl⟩
  go_wp2_with fail
  refine (backC _).mono ?_
  rintro e w1 ⟨rfl, rfl⟩
  go_wp2_with fail
  refine (backD _).mono ?_
  rintro e w1 ⟨rfl, rfl⟩
  go_wp2_with fail
  refine (known_any _ HT.out).mono ?_
  rintro e w1 ⟨rfl, q1⟩
  have Q1 : Hid (Kept _ _) := q1
  clear q1
  go_wp2_with fail
  refine (ofLow _).mono ?_
  rintro e w2 ⟨rfl, rfl⟩
  go_wp2_with fail
  refine (ofHigh _).mono ?_
  rintro e w2 ⟨rfl, rfl⟩
  go_wp2_with fail
  refine (ofFeeds _).mono ?_
  rintro e w2 ⟨rfl, rfl⟩
  go_wp2_with fail
  refine (print127 _ (HT.out.kept Q1.out)).mono ?_
  rintro e w2 ⟨rfl, q2⟩
  have Q2 : Hid (Kept _ _) := Q1.out.then q2
  clear q2
  go_wp2_with fail
  refine (print02 _ (HT.out.kept Q2.out)).mono ?_
  rintro e w3 ⟨rfl, q3⟩
  have Q3 : Hid (Kept _ _) := Q2.out.then q3
  clear q3
  go_wp2_with fail
  refine (printNan _ _ (HT.out.kept Q3.out.drew)).mono ?_
  rintro e w4 ⟨rfl, q4⟩
  have Q4 : Hid (Kept _ _) := Q3.out.drew.then q4
  clear q4
  go_wp2_with fail
  refine (lessA _).mono ?_
  rintro e w5 ⟨rfl, rfl⟩
  go_wp2_with fail
  refine (lessB _).mono ?_
  rintro e w5 ⟨rfl, rfl⟩
  go_wp2_with fail
  refine (lessC _).mono ?_
  rintro e w5 ⟨rfl, rfl⟩
  go_wp2_with fail
  refine (lessNan _ _).mono ?_
  rintro e w5 ⟨rfl, rfl⟩
  go_wp2
  go_ret
  exact ⟨rfl, Q4.out.drew⟩

end Go.Proofs.YthkooeohhgpkcaaDoor
