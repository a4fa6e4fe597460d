/- The whole numbers from 0 up to 2^53 as float64: what reading, comparing, adding, taking away and cutting give. No condition but the bounds named in each. -/
import Derived.Laws.FloatArith
import Derived.Laws.ComplexArith
namespace Go.Proofs.YteaopephdjoegaaGreatDoor
open Go

namespace Fp

theorem log2_mul_pow (m c : Nat) (h : 0 < m) : (m * 2 ^ c).log2 = m.log2 + c := by
  have h1 : m * 2 ^ c ≠ 0 := Nat.ne_of_gt (Nat.mul_pos h (Nat.two_pow_pos c))
  have hm : m ≠ 0 := by omega
  have a : 2 ^ m.log2 ≤ m := Nat.log2_self_le hm
  have b : m < 2 ^ (m.log2 + 1) := Nat.lt_log2_self
  refine Nat.le_antisymm ?_ ?_
  · have : (m * 2 ^ c).log2 < m.log2 + c + 1 := by
      rw [Nat.log2_lt h1, show m.log2 + c + 1 = (m.log2 + 1) + c by omega, Nat.pow_add 2 (m.log2 + 1) c]
      exact Nat.mul_lt_mul_of_pos_right b (Nat.two_pow_pos c)
    omega
  · rw [Nat.le_log2 h1, Nat.pow_add]
    exact Nat.mul_le_mul_right _ a

theorem log2_le52 (m : Nat) (h0 : 0 < m) (h : m < 2 ^ 53) : m.log2 ≤ 52 := by
  have := (Nat.log2_lt (n := m) (k := 53) (by omega)).2 h
  omega

theorem cut_none (neg : Bool) (n : Nat) : Ieee.Toward.even.cut neg n 0 = n := by
  simp [Ieee.Toward.cut, Nat.mod_one]

theorem cut_even_mul (neg : Bool) (k d : Nat) (hk : 0 < k) : Ieee.Toward.even.cut neg (k * 2 ^ d) d = k := by
  have hl : d ≤ (k * 2 ^ d).log2 + 2 := by rw [log2_mul_pow k d hk]; omega
  have hp : 0 < 2 ^ d := Nat.two_pow_pos d
  simp only [Ieee.Toward.cut]
  rw [Nat.min_eq_left hl, Nat.shiftLeft_eq, Nat.one_mul, Nat.mul_div_cancel _ hp, Nat.mul_mod_left]
  have e1 : decide (2 ^ d < 2 * 0) = false := by simp
  have e2 : (2 ^ d == 2 * 0) = false := by simp
  rw [e1, e2]
  simp

theorem cut_zero_mul (neg : Bool) (k d : Nat) (hk : 0 < k) : Ieee.Toward.zero.cut neg (k * 2 ^ d) d = k := by
  have hl : d ≤ (k * 2 ^ d).log2 + 2 := by rw [log2_mul_pow k d hk]; omega
  have hp : 0 < 2 ^ d := Nat.two_pow_pos d
  simp only [Ieee.Toward.cut]
  rw [Nat.min_eq_left hl, Nat.shiftLeft_eq, Nat.one_mul, Nat.mul_div_cancel _ hp]
  simp

/-- The word of a whole number: its rung. -/
def rung (m : Nat) : Nat := if m = 0 then 0 else (m.log2 + 1022) * 2 ^ 52 + m * 2 ^ (52 - m.log2)

theorem full (m : Nat) (h0 : 0 < m) (h : m < 2 ^ 53) : 2 ^ 52 ≤ m * 2 ^ (52 - m.log2) ∧ m * 2 ^ (52 - m.log2) < 2 ^ 53 := by
  have hl := log2_le52 m h0 h
  have a : 2 ^ m.log2 ≤ m := Nat.log2_self_le (by omega)
  have b : m < 2 ^ (m.log2 + 1) := Nat.lt_log2_self
  have e1 : 2 ^ 52 = 2 ^ m.log2 * 2 ^ (52 - m.log2) := by rw [← Nat.pow_add]; congr 1; omega
  have e2 : 2 ^ 53 = 2 ^ (m.log2 + 1) * 2 ^ (52 - m.log2) := by rw [← Nat.pow_add]; congr 1; omega
  constructor
  · rw [e1]; exact Nat.mul_le_mul_right _ a
  · rw [e2]; exact Nat.mul_lt_mul_of_pos_right b (Nat.two_pow_pos _)

theorem double_least : Ieee.double.leastPlace = -1074 := by decide
theorem double_frac : Ieee.double.fractionBits = 52 := rfl
theorem double_binade : Ieee.double.binade = 2 ^ 52 := rfl
theorem double_inf : Ieee.double.infRung = 2047 * 2 ^ 52 := by decide
theorem double_sign : Ieee.double.signWeight = 2 ^ 63 := by decide

theorem min_left (R K : Nat) (h : R ≤ 1074 * 2 ^ 52) (h2 : K < 2 ^ 53) : min (R + K) (2047 * 2 ^ 52) = R + K := by omega

theorem nearest_scaled (m c : Nat) (h : m < 2 ^ 53) : Ieee.double.nearest false (m * 2 ^ c) (-(c : Int)) = rung m := by
  unfold rung
  by_cases h0 : m = 0
  · subst h0; simp [Ieee.Format.nearest, Ieee.Format.word]
  have hp : 0 < m := by omega
  have hne : m * 2 ^ c ≠ 0 := Nat.ne_of_gt (Nat.mul_pos hp (Nat.two_pow_pos c))
  have hl := log2_le52 m hp h
  obtain ⟨f1, f2⟩ := full m hp h
  rw [if_neg h0]
  simp only [Ieee.Format.nearest]
  rw [if_neg hne, log2_mul_pow m c hp, double_frac, double_least, double_binade, double_inf]
  have elast : max (-(c : Int) + ((m.log2 + c : Nat) : Int) - ((52 : Nat) : Int)) (-1074) = (m.log2 : Int) - 52 := by omega
  rw [elast]
  have ekept : Ieee.Toward.even.cut false ((m * 2 ^ c) <<< (-(c : Int) - ((m.log2 : Int) - 52)).toNat) ((m.log2 : Int) - 52 - -(c : Int)).toNat = m * 2 ^ (52 - m.log2) := by
    by_cases hc : c ≤ 52 - m.log2
    · rw [show ((m.log2 : Int) - 52 - -(c : Int)).toNat = 0 by omega, cut_none, Nat.shiftLeft_eq, show (-(c : Int) - ((m.log2 : Int) - 52)).toNat = (52 - m.log2) - c by omega, Nat.mul_assoc, ← Nat.pow_add]
      congr 2; omega
    · rw [show (-(c : Int) - ((m.log2 : Int) - 52)).toNat = 0 by omega, Nat.shiftLeft_eq, Nat.pow_zero, Nat.mul_one, show ((m.log2 : Int) - 52 - -(c : Int)).toNat = c - (52 - m.log2) by omega]
      have e : m * 2 ^ c = m * 2 ^ (52 - m.log2) * 2 ^ (c - (52 - m.log2)) := by
        rw [Nat.mul_assoc, ← Nat.pow_add]; congr 2; omega
      rw [e, cut_even_mul _ _ _ (by omega)]
  rw [ekept, show ((m.log2 : Int) - 52 - -1074).toNat = m.log2 + 1022 by omega]
  unfold Ieee.Format.word
  simp only [Bool.false_eq_true, if_false]
  have b1 : (m.log2 + 1022) * 2 ^ 52 ≤ 1074 * 2 ^ 52 := Nat.mul_le_mul_right _ (by omega)
  exact min_left _ _ b1 f2

theorem floatOfInt_eq (m : Nat) (h : m < 2 ^ 53) : floatOfInt .f64 (m : Int) = rung m := by
  have := nearest_scaled m 0 h
  have hd : decide ((m : Int) < 0) = false := decide_eq_false (by omega)
  simp only [floatOfInt, FloatKind.nearest, FloatKind.encode, FloatKind.format, Ieee.Format.write, hd, Int.natAbs_natCast]
  simpa using this

/-- What the word of a whole number is read as: its digits behind a place at or below 0. -/
def Rep (x n : Nat) : Prop := ∃ c : Nat, Ieee.double.read x = .number false (n * 2 ^ c) (-(c : Int))

theorem rep_zero (x c : Nat) (h : Ieee.double.read x = .number false 0 (-(c : Int))) : Rep x 0 := ⟨c, by rw [h, Nat.zero_mul]⟩

theorem rep_rung (m : Nat) (h : m < 2 ^ 53) : Rep (rung m) m := by
  by_cases h0 : m = 0
  · subst h0
    have h : Ieee.double.read (rung 0) = .number false 0 (-((1074 : Nat) : Int)) := by decide +kernel
    exact rep_zero _ 1074 h
  have hp : 0 < m := by omega
  have hl := log2_le52 m hp h
  obtain ⟨f1, f2⟩ := full m hp h
  refine ⟨52 - m.log2, ?_⟩
  unfold rung
  rw [if_neg h0]
  generalize hK : m * 2 ^ (52 - m.log2) = K at *
  have b1 : (m.log2 + 1022) * 2 ^ 52 ≤ 1074 * 2 ^ 52 := Nat.mul_le_mul_right _ (by omega)
  have hlt : (m.log2 + 1022) * 2 ^ 52 + K < 2047 * 2 ^ 52 := by omega
  simp only [Ieee.Format.read]
  rw [double_sign, double_binade, double_inf, double_least]
  have e1 : ((m.log2 + 1022) * 2 ^ 52 + K) % 2 ^ 63 = (m.log2 + 1022) * 2 ^ 52 + K := Nat.mod_eq_of_lt (by omega)
  have e2 : ((m.log2 + 1022) * 2 ^ 52 + K) / 2 ^ 63 = 0 := Nat.div_eq_of_lt (by omega)
  rw [e1, e2, if_neg (by omega), if_pos hlt]
  have e3 : ((m.log2 + 1022) * 2 ^ 52 + K) % 2 ^ 52 = K - 2 ^ 52 := by omega
  have e4 : ((m.log2 + 1022) * 2 ^ 52 + K) / 2 ^ 52 = m.log2 + 1023 := by omega
  rw [e3, e4]
  have e5 : 2 ^ 52 + (K - 2 ^ 52) = K := by omega
  rw [e5]
  simp
  omega

theorem rep_of (m : Nat) (h : m < 2 ^ 53) : Rep (floatOfInt .f64 (m : Int)) m := by
  rw [floatOfInt_eq m h]; exact rep_rung m h

theorem shl_int (a c : Nat) : Ieee.signed false a c = ((a * 2 ^ c : Nat) : Int) := by
  simp [Ieee.signed, Nat.shiftLeft_eq]

theorem shl_neg (a c : Nat) : Ieee.signed true a c = -((a * 2 ^ c : Nat) : Int) := by
  simp [Ieee.signed, Nat.shiftLeft_eq]

/-- Two scaled numbers at their common place. -/
theorem scaled (a c d : Nat) : a * 2 ^ c * 2 ^ ((-(c : Int)) - min (-(c : Int)) (-(d : Int))).toNat = a * 2 ^ (max c d) := by
  rw [Nat.mul_assoc, ← Nat.pow_add]; congr 2; omega

theorem scaled' (a c d : Nat) : a * 2 ^ d * 2 ^ ((-(d : Int)) - min (-(c : Int)) (-(d : Int))).toNat = a * 2 ^ (max c d) := by
  rw [Nat.mul_assoc, ← Nat.pow_add]; congr 2; omega

theorem order_rep {x y a b : Nat} (hx : Rep x a) (hy : Rep y b) : Ieee.double.order x y = some (compare a b) := by
  obtain ⟨c, hx⟩ := hx
  obtain ⟨d, hy⟩ := hy
  have hp : 0 < 2 ^ (max c d) := Nat.two_pow_pos _
  simp only [Ieee.Format.order, hx, hy, Ieee.Datum.order, shl_int, scaled, scaled']
  congr 1
  rcases Nat.lt_trichotomy a b with h | h | h
  · have : a * 2 ^ (max c d) < b * 2 ^ (max c d) := Nat.mul_lt_mul_of_pos_right h hp
    rw [Nat.compare_eq_lt.2 h, Int.compare_eq_lt.2 (by exact_mod_cast this)]
  · subst h; simp
  · have : b * 2 ^ (max c d) < a * 2 ^ (max c d) := Nat.mul_lt_mul_of_pos_right h hp
    rw [Nat.compare_eq_gt.2 h, Int.compare_eq_gt.2 (by exact_mod_cast this)]

theorem min_neg (c d : Nat) : min (-(c : Int)) (-(d : Int)) = -((max c d : Nat) : Int) := by omega

theorem add_rep {x y a b : Nat} (hx : Rep x a) (hy : Rep y b) (h : a + b < 2 ^ 53) : Ieee.double.add x y = some (rung (a + b)) := by
  obtain ⟨c, hx⟩ := hx
  obtain ⟨d, hy⟩ := hy
  simp only [Ieee.Format.add, hx, hy, Ieee.Datum.sum, shl_int, scaled, scaled']
  have e : ((a * 2 ^ max c d : Nat) : Int) + ((b * 2 ^ max c d : Nat) : Int) = (((a + b) * 2 ^ max c d : Nat) : Int) := by
    rw [Nat.add_mul]; simp
  rw [e, Int.natAbs_natCast, min_neg]
  have es : (if (((a + b) * 2 ^ max c d : Nat) : Int) = 0 then (false && false) else decide ((((a + b) * 2 ^ max c d : Nat) : Int) < 0)) = false := by
    split
    · rfl
    · exact decide_eq_false (by omega)
  rw [es]
  simp only [Option.map_some, Ieee.Format.write]
  rw [nearest_scaled _ _ h]

theorem sub_rep {x y a b : Nat} (hx : Rep x a) (hy : Rep y b) (hab : b ≤ a) (h : a < 2 ^ 53) : Ieee.double.sub x y = some (rung (a - b)) := by
  obtain ⟨c, hx⟩ := hx
  obtain ⟨d, hy⟩ := hy
  simp only [Ieee.Format.sub, hx, hy, Ieee.Datum.opposite, Bool.not_false, Ieee.Datum.sum, shl_int, shl_neg, scaled, scaled']
  have hle : b * 2 ^ max c d ≤ a * 2 ^ max c d := Nat.mul_le_mul_right _ hab
  have e : ((a * 2 ^ max c d : Nat) : Int) + -((b * 2 ^ max c d : Nat) : Int) = (((a - b) * 2 ^ max c d : Nat) : Int) := by
    rw [Nat.sub_mul, Int.ofNat_sub hle]; omega
  rw [e, Int.natAbs_natCast, min_neg]
  have es : (if (((a - b) * 2 ^ max c d : Nat) : Int) = 0 then (false && true) else decide ((((a - b) * 2 ^ max c d : Nat) : Int) < 0)) = false := by
    split
    · rfl
    · exact decide_eq_false (by omega)
  rw [es]
  simp only [Option.map_some, Ieee.Format.write]
  rw [nearest_scaled _ _ (by omega)]

theorem toInt_rep {x a : Nat} (hx : Rep x a) : (Ieee.double.read x).toInt .zero = some (a : Int) := by
  obtain ⟨c, hx⟩ := hx
  rw [hx]
  simp only [Ieee.Datum.toInt, Ieee.Datum.integral]
  have e : Ieee.Toward.zero.cut false ((a * 2 ^ c) <<< (-(c : Int)).toNat) (- -(c : Int)).toNat = a := by
    rw [show (-(c : Int)).toNat = 0 by omega, Nat.shiftLeft_eq, Nat.pow_zero, Nat.mul_one, show (- -(c : Int)).toNat = c by omega]
    by_cases h : a = 0
    · subst h; simp [Ieee.Toward.cut]
    · exact cut_zero_mul _ _ _ (by omega)
  rw [e]
  simp [Ieee.signed]

end Fp
end Go.Proofs.YteaopephdjoegaaGreatDoor
