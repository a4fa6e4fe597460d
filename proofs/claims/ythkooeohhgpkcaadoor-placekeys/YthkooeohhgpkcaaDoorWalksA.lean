/- What the small functions of the program under the statements of chapter 1 answer: Less, next, IsNaN, whole, Pick, Within, Few, each at whatever memory. -/
import Derived.Test.YthkooeohhgpkcaaDoorRows
import Derived.WalkKit
import Derived.WalkSpells
import Derived.WalkLawsBesides
import Derived.Test.YthkooeohhgpkcaaDoorFloat
namespace Go.Proofs.YthkooeohhgpkcaaDoor
open Go.RowKit

theorem ret_int {k : IntKind} {a b : Int} (h : a = b) : Ending.returned (.int k a) = .returned (.int k b) := by rw [h]

set_option maxHeartbeats 400000 in
theorem isNaN_any (x : Nat) (w : World) :
    Calls Tryd.prog 29 #[.float .f64 x] w fun e w' => e = .returned (.bool (Ieee.double.order x x != some .eq)) ∧ w' = w := by
  go_enter Tryd.func29, Tryd.ntmps29
  go_wp2
  go_ret
  exact ⟨rfl, rfl⟩

set_option maxHeartbeats 400000 in
theorem less_any (a b c d : Nat) (w : World) :
    Calls Tryd.prog 13 #[.complex .f64 a b, .complex .f64 c d] w fun e w' => e = .returned (.bool (if Ieee.double.order a c == some .eq then Ieee.double.order b d == some .lt else Ieee.double.order a c == some .lt)) ∧ w' = w := by
  cases h : (Ieee.double.order a c == some .eq)
  all_goals
    have h2 : (FloatKind.f64.format.order a c == some .eq) = _ := h
    go_enter Tryd.func13, Tryd.ntmps13
    go_wp2
    go_ret
    exact ⟨rfl, rfl⟩

set_option maxHeartbeats 400000 in
theorem next_feed (x y r : Nat) (w : World) (h : Ieee.double.add x 4607182418800017408 = some r) :
    Calls Tryd.prog 18 #[.complex .f64 x y, .int .u8 10] w fun e w' => e = .returned (.complex .f64 r 4607182418800017408) ∧ w' = w := by
  have hr : ∀ w, (binOp .add 25 (.float .f64 x) (.float .f64 4607182418800017408)).run Tryd.prog w = .ok (.float .f64 r) w := fun w => run_float_arith w .add 25 .f64 x 4607182418800017408 r h
  clear h
  go_enter Tryd.func18, Tryd.ntmps18
  go_wp2
  go_ret
  exact ⟨rfl, rfl⟩

set_option maxHeartbeats 400000 in
theorem next_on (x y r q : Nat) (b : Int) (w : World) (hb : (b == 10) = false) (h : Ieee.double.add x 0 = some r) (h2 : Ieee.double.add y 4607182418800017408 = some q) :
    Calls Tryd.prog 18 #[.complex .f64 x y, .int .u8 b] w fun e w' => e = .returned (.complex .f64 r q) ∧ w' = w := by
  have hr : ∀ w, (binOp .add 24 (.complex .f64 x y) (.complex .f64 0 4607182418800017408)).run Tryd.prog w = .ok (.complex .f64 r q) w := fun w => run_complex_sum w .add (Or.inl rfl) 24 .f64 x y 0 4607182418800017408 r q (by
    have e1 : floatBits .add .f64 x 0 = some r := h
    have e2 : floatBits .add .f64 y 4607182418800017408 = some q := h2
    simp [cSumBits, e1, e2])
  clear h h2
  go_enter Tryd.func18, Tryd.ntmps18
  go_wp2
  go_ret
  exact ⟨rfl, rfl⟩

set_option maxHeartbeats 400000 in
theorem within_any (n l h : Int) (w : World) :
    Calls Tryd.prog 23 #[.int .i64 n, .int .i64 l, .int .i64 h] w fun e w' => e = .returned (.int .i64 (max l (min h n))) ∧ w' = w := by
  go_enter Tryd.func23, Tryd.ntmps23
  go_wp2
  all_goals
    go_ret
    exact ⟨ret_int (by omega), rfl⟩

theorem tmod_pos (n m : Int) (hm : 0 < m) : n % m = if n.tmod m < 0 then n.tmod m + m else n.tmod m := by
  have h1 := Int.tmod_eq_emod (a := n) (b := m)
  have h2 := Int.emod_nonneg n (by omega : m ≠ 0)
  have h3 := Int.emod_lt_of_pos n hm
  have h4 : (m.natAbs : Int) = m := by omega
  by_cases hc : 0 ≤ n ∨ m ∣ n
  · rw [if_pos hc] at h1; split <;> omega
  · rw [if_neg hc] at h1; split <;> omega

theorem tmod_lt (n m : Int) (hm : 0 < m) : -m < n.tmod m ∧ n.tmod m < m := by
  have h1 := Int.tmod_eq_emod (a := n) (b := m)
  have h2 := Int.emod_nonneg n (by omega : m ≠ 0)
  have h3 := Int.emod_lt_of_pos n hm
  have h4 : (m.natAbs : Int) = m := by omega
  by_cases hc : 0 ≤ n ∨ m ∣ n
  · rw [if_pos hc] at h1; omega
  · rw [if_neg hc] at h1; omega

set_option maxHeartbeats 400000 in
theorem pick_any (n m : Int) (w : World) (hm : 0 < m) (hm2 : m ≤ 4611686018427387904) :
    Calls Tryd.prog 14 #[.int .i64 n, .int .i64 m] w fun e w' => e = .returned (.int .i64 (n % m)) ∧ w' = w := by
  have e1 := tmod_pos n m hm
  obtain ⟨b1, b2⟩ := tmod_lt n m hm
  have H : Hid (n % m = if n.tmod m < 0 then n.tmod m + m else n.tmod m) := e1
  clear e1
  have hz : (m == 0) = false := by simp; omega
  go_enter Tryd.func14, Tryd.ntmps14
  go_wp2
  all_goals
    go_ret
    refine ⟨ret_int ?_, rfl⟩
    rw [H.out]
    first | rw [if_pos (by omega)] | rw [if_neg (by omega)]

def maxW (x y : Nat) : Nat := match Ieee.double.order x y with | some .lt => y | some .gt => x | some .eq => (if (Ieee.double.read x).neg then y else x) | none => 0
def minW (x y : Nat) : Nat := match Ieee.double.order x y with | some .lt => x | some .gt => y | some .eq => (if (Ieee.double.read x).neg then x else y) | none => 0

theorem run_maxW {P : Program} (w : World) (ts : Array TypeId) (t : TypeId) (x y : Nat) (h : (Ieee.double.order x y).isSome = true) : (Builtin.max_ ts t #[.float .f64 x, .float .f64 y]).run P w = .ok (.float .f64 (maxW x y)) w := by
  unfold maxW
  cases ho : Ieee.double.order x y with
  | none => simp [ho] at h
  | some o =>
    cases o <;> simp [Builtin.max_, Builtin.max2, ho, FloatKind.decode, FloatKind.format]
    by_cases hn : (Ieee.double.read x).neg = true <;> simp [hn]

theorem run_minW {P : Program} (w : World) (ts : Array TypeId) (t : TypeId) (x y : Nat) (h : (Ieee.double.order x y).isSome = true) : (Builtin.min_ ts t #[.float .f64 x, .float .f64 y]).run P w = .ok (.float .f64 (minW x y)) w := by
  unfold minW
  cases ho : Ieee.double.order x y with
  | none => simp [ho] at h
  | some o =>
    cases o <;> simp [Builtin.min_, Builtin.min2, ho, FloatKind.decode, FloatKind.format]
    by_cases hn : (Ieee.double.read x).neg = true <;> simp [hn]

set_option maxHeartbeats 400000 in
theorem whole_nan (x : Nat) (w : World) (h : Ieee.double.order x x = none) :
    Calls Tryd.prog 22 #[.float .f64 x] w fun e w' => e = .returned (.int .i64 0) ∧ w' = w := by
  have hb : (Ieee.double.order x x != some .eq) = true := by rw [h]; rfl
  clear h
  go_enter Tryd.func22, Tryd.ntmps22
  go_wp2_with (go_at_call 29; refine (isNaN_any _ _).mono ?_; rintro e w' ⟨rfl, rfl⟩)
  go_ret
  exact ⟨rfl, rfl⟩

set_option maxHeartbeats 400000 in
theorem whole_num (x : Nat) (n : Int) (w : World) (h : Ieee.double.order x x = some .eq) (h1 : (Ieee.double.order x 0).isSome = true) (h2 : (Ieee.double.order (maxW x 0) 4746794007248502784).isSome = true)
    (h3 : floatToIntVal .f64 (minW (maxW x 0) 4746794007248502784) .i64 = some n) :
    Calls Tryd.prog 22 #[.float .f64 x] w fun e w' => e = .returned (.int .i64 n) ∧ w' = w := by
  have hb : (Ieee.double.order x x != some .eq) = false := by rw [h]; rfl
  have r1 : ∀ w ts t, (Builtin.max_ ts t #[.float .f64 x, .float .f64 0]).run Tryd.prog w = .ok (.float .f64 (maxW x 0)) w := fun w ts t => run_maxW w ts t x 0 h1
  have r2 : ∀ w ts t, (Builtin.min_ ts t #[.float .f64 (maxW x 0), .float .f64 4746794007248502784]).run Tryd.prog w = .ok (.float .f64 (minW (maxW x 0) 4746794007248502784)) w := fun w ts t => run_minW w ts t _ _ h2
  have r3 : ∀ w, (convert 25 2 (.float .f64 (minW (maxW x 0) 4746794007248502784))).run Tryd.prog w = .ok (.int .i64 n) w := fun w => run_convert_float_int w 25 2 .f64 .i64 _ n (by kernel_rfl) (by kernel_rfl) h3
  clear h h1 h2 h3
  go_enter Tryd.func22, Tryd.ntmps22
  go_wp2_with (go_at_call 29; refine (isNaN_any _ _).mono ?_; rintro e w' ⟨rfl, rfl⟩)
  go_ret
  exact ⟨rfl, rfl⟩

theorem toList_extract (s : ByteArray) (k : Nat) : (s.extract 0 k).data.toList = s.data.toList.take k := by
  simp [ByteArray.data_extract]

theorem extract_all (s : ByteArray) (k : Nat) (h : s.size ≤ k) : s.extract 0 k = s := by
  apply ByteArray.ext
  apply Array.ext'
  rw [toList_extract, List.take_of_length_le (by simpa using h)]

set_option maxHeartbeats 400000 in
theorem few_any (s : ByteArray) (n : Int) (w : World) (hn : 0 ≤ n) (hs : s.size ≤ maxLen) :
    Calls Tryd.prog 17 #[.string s, .int .i64 n] w fun e w' => e = .returned (.string (s.extract 0 n.toNat)) ∧ w' = w := by
  unfold maxLen at hs
  by_cases hlt : n < (s.size : Int)
  · go_enter Tryd.func17, Tryd.ntmps17
    go_wp2
    go_ret
    exact ⟨rfl, rfl⟩
  · have e := extract_all s n.toNat (by omega)
    have H : Hid (s.extract 0 n.toNat = s) := e
    clear e
    go_enter Tryd.func17, Tryd.ntmps17
    go_wp2
    go_ret
    exact ⟨by rw [H.out]; rfl, rfl⟩

end Go.Proofs.YthkooeohhgpkcaaDoor
