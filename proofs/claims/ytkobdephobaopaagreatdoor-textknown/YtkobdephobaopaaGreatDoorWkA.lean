/- The whole numbers from 0 up to 2^53 as float64: what reading, comparing, adding, taking away and cutting give. No condition but the bounds named in each. Lines and columns of a text's bytes as plain numbers: what they are at each byte, that they rise, and how they stand to counts and last places of line feeds. No program, no condition. A body in which the run jumps among several labels: what holds at each jump, and a measure that each pass from a label lowers. No program. What the small functions under the statements of chapter 2 answer: isLetter, isDigit, goesOn, signLength, letter, digit, Pick, Few, Within, each at whatever memory; sums and comparisons of places. -/
import Derived.Laws.FloatArith
import Derived.Laws.ComplexArith
import Derived.Lib.LastIndexByte
import Derived.Lib.Bytealg
import Derived.ScopeJumps
import Derived.Test.YtkobdephobaopaaGreatDoorKpA
import Derived.Test.YtkobdephobaopaaGreatDoorRows
import Derived.WalkKit
import Derived.WalkSpells
import Derived.WalkLawsBesides
import Derived.Test.YtkobdephobaopaaGreatDoorLxA

namespace Go.Proofs.YtkobdephobaopaaGreatDoor
open Go

namespace Fp

theorem log2_mul_pow (m c : Nat) (h : 0 < m) : (m * 2 ^ c).log2 = m.log2 + c := by
  have h1 : m * 2 ^ c ≠ 0 := Nat.ne_of_gt (Nat.mul_pos h (Nat.two_pow_pos c))
  have hm : m ≠ 0 := by omega
  have a : 2 ^ m.log2 ≤ m := Nat.log2_self_le hm
  have b : m < 2 ^ (m.log2 + 1) := Nat.lt_log2_self
  refine Nat.le_antisymm ?_ ?_
  · have : (m * 2 ^ c).log2 < m.log2 + c + 1 := by
      rw [Nat.log2_lt h1, show m.log2 + c + 1 = (m.log2 + 1) + c by omega, Nat.pow_add 2 (m.log2 + 1) c]
      exact Nat.mul_lt_mul_of_pos_right b (Nat.two_pow_pos c)
    omega
  · rw [Nat.le_log2 h1, Nat.pow_add]
    exact Nat.mul_le_mul_right _ a

theorem log2_le52 (m : Nat) (h0 : 0 < m) (h : m < 2 ^ 53) : m.log2 ≤ 52 := by
  have := (Nat.log2_lt (n := m) (k := 53) (by omega)).2 h
  omega

theorem cut_none (neg : Bool) (n : Nat) : Ieee.Toward.even.cut neg n 0 = n := by
  simp [Ieee.Toward.cut, Nat.mod_one]

theorem cut_even_mul (neg : Bool) (k d : Nat) (hk : 0 < k) : Ieee.Toward.even.cut neg (k * 2 ^ d) d = k := by
  have hl : d ≤ (k * 2 ^ d).log2 + 2 := by rw [log2_mul_pow k d hk]; omega
  have hp : 0 < 2 ^ d := Nat.two_pow_pos d
  simp only [Ieee.Toward.cut]
  rw [Nat.min_eq_left hl, Nat.shiftLeft_eq, Nat.one_mul, Nat.mul_div_cancel _ hp, Nat.mul_mod_left]
  have e1 : decide (2 ^ d < 2 * 0) = false := by simp
  have e2 : (2 ^ d == 2 * 0) = false := by simp
  rw [e1, e2]
  simp

theorem cut_zero_mul (neg : Bool) (k d : Nat) (hk : 0 < k) : Ieee.Toward.zero.cut neg (k * 2 ^ d) d = k := by
  have hl : d ≤ (k * 2 ^ d).log2 + 2 := by rw [log2_mul_pow k d hk]; omega
  have hp : 0 < 2 ^ d := Nat.two_pow_pos d
  simp only [Ieee.Toward.cut]
  rw [Nat.min_eq_left hl, Nat.shiftLeft_eq, Nat.one_mul, Nat.mul_div_cancel _ hp]
  simp

/-- The word of a whole number: its rung. -/
def rung (m : Nat) : Nat := if m = 0 then 0 else (m.log2 + 1022) * 2 ^ 52 + m * 2 ^ (52 - m.log2)

theorem full (m : Nat) (h0 : 0 < m) (h : m < 2 ^ 53) : 2 ^ 52 ≤ m * 2 ^ (52 - m.log2) ∧ m * 2 ^ (52 - m.log2) < 2 ^ 53 := by
  have hl := log2_le52 m h0 h
  have a : 2 ^ m.log2 ≤ m := Nat.log2_self_le (by omega)
  have b : m < 2 ^ (m.log2 + 1) := Nat.lt_log2_self
  have e1 : 2 ^ 52 = 2 ^ m.log2 * 2 ^ (52 - m.log2) := by rw [← Nat.pow_add]; congr 1; omega
  have e2 : 2 ^ 53 = 2 ^ (m.log2 + 1) * 2 ^ (52 - m.log2) := by rw [← Nat.pow_add]; congr 1; omega
  constructor
  · rw [e1]; exact Nat.mul_le_mul_right _ a
  · rw [e2]; exact Nat.mul_lt_mul_of_pos_right b (Nat.two_pow_pos _)

theorem double_least : Ieee.double.leastPlace = -1074 := by decide
theorem double_frac : Ieee.double.fractionBits = 52 := rfl
theorem double_binade : Ieee.double.binade = 2 ^ 52 := rfl
theorem double_inf : Ieee.double.infRung = 2047 * 2 ^ 52 := by decide
theorem double_sign : Ieee.double.signWeight = 2 ^ 63 := by decide

theorem min_left (R K : Nat) (h : R ≤ 1074 * 2 ^ 52) (h2 : K < 2 ^ 53) : min (R + K) (2047 * 2 ^ 52) = R + K := by omega

theorem nearest_scaled (m c : Nat) (h : m < 2 ^ 53) : Ieee.double.nearest false (m * 2 ^ c) (-(c : Int)) = rung m := by
  unfold rung
  by_cases h0 : m = 0
  · subst h0; simp [Ieee.Format.nearest, Ieee.Format.word]
  have hp : 0 < m := by omega
  have hne : m * 2 ^ c ≠ 0 := Nat.ne_of_gt (Nat.mul_pos hp (Nat.two_pow_pos c))
  have hl := log2_le52 m hp h
  obtain ⟨f1, f2⟩ := full m hp h
  rw [if_neg h0]
  simp only [Ieee.Format.nearest]
  rw [if_neg hne, log2_mul_pow m c hp, double_frac, double_least, double_binade, double_inf]
  have elast : max (-(c : Int) + ((m.log2 + c : Nat) : Int) - ((52 : Nat) : Int)) (-1074) = (m.log2 : Int) - 52 := by omega
  rw [elast]
  have ekept : Ieee.Toward.even.cut false ((m * 2 ^ c) <<< (-(c : Int) - ((m.log2 : Int) - 52)).toNat) ((m.log2 : Int) - 52 - -(c : Int)).toNat = m * 2 ^ (52 - m.log2) := by
    by_cases hc : c ≤ 52 - m.log2
    · rw [show ((m.log2 : Int) - 52 - -(c : Int)).toNat = 0 by omega, cut_none, Nat.shiftLeft_eq, show (-(c : Int) - ((m.log2 : Int) - 52)).toNat = (52 - m.log2) - c by omega, Nat.mul_assoc, ← Nat.pow_add]
      congr 2; omega
    · rw [show (-(c : Int) - ((m.log2 : Int) - 52)).toNat = 0 by omega, Nat.shiftLeft_eq, Nat.pow_zero, Nat.mul_one, show ((m.log2 : Int) - 52 - -(c : Int)).toNat = c - (52 - m.log2) by omega]
      have e : m * 2 ^ c = m * 2 ^ (52 - m.log2) * 2 ^ (c - (52 - m.log2)) := by
        rw [Nat.mul_assoc, ← Nat.pow_add]; congr 2; omega
      rw [e, cut_even_mul _ _ _ (by omega)]
  rw [ekept, show ((m.log2 : Int) - 52 - -1074).toNat = m.log2 + 1022 by omega]
  unfold Ieee.Format.word
  simp only [Bool.false_eq_true, if_false]
  have b1 : (m.log2 + 1022) * 2 ^ 52 ≤ 1074 * 2 ^ 52 := Nat.mul_le_mul_right _ (by omega)
  exact min_left _ _ b1 f2

theorem floatOfInt_eq (m : Nat) (h : m < 2 ^ 53) : floatOfInt .f64 (m : Int) = rung m := by
  have := nearest_scaled m 0 h
  have hd : decide ((m : Int) < 0) = false := decide_eq_false (by omega)
  simp only [floatOfInt, FloatKind.nearest, FloatKind.encode, FloatKind.format, Ieee.Format.write, hd, Int.natAbs_natCast]
  simpa using this

/-- What the word of a whole number is read as: its digits behind a place at or below 0. -/
def Rep (x n : Nat) : Prop := ∃ c : Nat, Ieee.double.read x = .number false (n * 2 ^ c) (-(c : Int))

theorem rep_zero (x c : Nat) (h : Ieee.double.read x = .number false 0 (-(c : Int))) : Rep x 0 := ⟨c, by rw [h, Nat.zero_mul]⟩

theorem rep_rung (m : Nat) (h : m < 2 ^ 53) : Rep (rung m) m := by
  by_cases h0 : m = 0
  · subst h0
    have h : Ieee.double.read (rung 0) = .number false 0 (-((1074 : Nat) : Int)) := by decide +kernel
    exact rep_zero _ 1074 h
  have hp : 0 < m := by omega
  have hl := log2_le52 m hp h
  obtain ⟨f1, f2⟩ := full m hp h
  refine ⟨52 - m.log2, ?_⟩
  unfold rung
  rw [if_neg h0]
  generalize hK : m * 2 ^ (52 - m.log2) = K at *
  have b1 : (m.log2 + 1022) * 2 ^ 52 ≤ 1074 * 2 ^ 52 := Nat.mul_le_mul_right _ (by omega)
  have hlt : (m.log2 + 1022) * 2 ^ 52 + K < 2047 * 2 ^ 52 := by omega
  simp only [Ieee.Format.read]
  rw [double_sign, double_binade, double_inf, double_least]
  have e1 : ((m.log2 + 1022) * 2 ^ 52 + K) % 2 ^ 63 = (m.log2 + 1022) * 2 ^ 52 + K := Nat.mod_eq_of_lt (by omega)
  have e2 : ((m.log2 + 1022) * 2 ^ 52 + K) / 2 ^ 63 = 0 := Nat.div_eq_of_lt (by omega)
  rw [e1, e2, if_neg (by omega), if_pos hlt]
  have e3 : ((m.log2 + 1022) * 2 ^ 52 + K) % 2 ^ 52 = K - 2 ^ 52 := by omega
  have e4 : ((m.log2 + 1022) * 2 ^ 52 + K) / 2 ^ 52 = m.log2 + 1023 := by omega
  rw [e3, e4]
  have e5 : 2 ^ 52 + (K - 2 ^ 52) = K := by omega
  rw [e5]
  simp
  omega

theorem rep_of (m : Nat) (h : m < 2 ^ 53) : Rep (floatOfInt .f64 (m : Int)) m := by
  rw [floatOfInt_eq m h]; exact rep_rung m h

theorem shl_int (a c : Nat) : Ieee.signed false a c = ((a * 2 ^ c : Nat) : Int) := by
  simp [Ieee.signed, Nat.shiftLeft_eq]

theorem shl_neg (a c : Nat) : Ieee.signed true a c = -((a * 2 ^ c : Nat) : Int) := by
  simp [Ieee.signed, Nat.shiftLeft_eq]

/-- Two scaled numbers at their common place. -/
theorem scaled (a c d : Nat) : a * 2 ^ c * 2 ^ ((-(c : Int)) - min (-(c : Int)) (-(d : Int))).toNat = a * 2 ^ (max c d) := by
  rw [Nat.mul_assoc, ← Nat.pow_add]; congr 2; omega

theorem scaled' (a c d : Nat) : a * 2 ^ d * 2 ^ ((-(d : Int)) - min (-(c : Int)) (-(d : Int))).toNat = a * 2 ^ (max c d) := by
  rw [Nat.mul_assoc, ← Nat.pow_add]; congr 2; omega

theorem order_rep {x y a b : Nat} (hx : Rep x a) (hy : Rep y b) : Ieee.double.order x y = some (compare a b) := by
  obtain ⟨c, hx⟩ := hx
  obtain ⟨d, hy⟩ := hy
  have hp : 0 < 2 ^ (max c d) := Nat.two_pow_pos _
  simp only [Ieee.Format.order, hx, hy, Ieee.Datum.order, shl_int, scaled, scaled']
  congr 1
  rcases Nat.lt_trichotomy a b with h | h | h
  · have : a * 2 ^ (max c d) < b * 2 ^ (max c d) := Nat.mul_lt_mul_of_pos_right h hp
    rw [Nat.compare_eq_lt.2 h, Int.compare_eq_lt.2 (by exact_mod_cast this)]
  · subst h; simp
  · have : b * 2 ^ (max c d) < a * 2 ^ (max c d) := Nat.mul_lt_mul_of_pos_right h hp
    rw [Nat.compare_eq_gt.2 h, Int.compare_eq_gt.2 (by exact_mod_cast this)]

theorem min_neg (c d : Nat) : min (-(c : Int)) (-(d : Int)) = -((max c d : Nat) : Int) := by omega

theorem add_rep {x y a b : Nat} (hx : Rep x a) (hy : Rep y b) (h : a + b < 2 ^ 53) : Ieee.double.add x y = some (rung (a + b)) := by
  obtain ⟨c, hx⟩ := hx
  obtain ⟨d, hy⟩ := hy
  simp only [Ieee.Format.add, hx, hy, Ieee.Datum.sum, shl_int, scaled, scaled']
  have e : ((a * 2 ^ max c d : Nat) : Int) + ((b * 2 ^ max c d : Nat) : Int) = (((a + b) * 2 ^ max c d : Nat) : Int) := by
    rw [Nat.add_mul]; simp
  rw [e, Int.natAbs_natCast, min_neg]
  have es : (if (((a + b) * 2 ^ max c d : Nat) : Int) = 0 then (false && false) else decide ((((a + b) * 2 ^ max c d : Nat) : Int) < 0)) = false := by
    split
    · rfl
    · exact decide_eq_false (by omega)
  rw [es]
  simp only [Option.map_some, Ieee.Format.write]
  rw [nearest_scaled _ _ h]

theorem sub_rep {x y a b : Nat} (hx : Rep x a) (hy : Rep y b) (hab : b ≤ a) (h : a < 2 ^ 53) : Ieee.double.sub x y = some (rung (a - b)) := by
  obtain ⟨c, hx⟩ := hx
  obtain ⟨d, hy⟩ := hy
  simp only [Ieee.Format.sub, hx, hy, Ieee.Datum.opposite, Bool.not_false, Ieee.Datum.sum, shl_int, shl_neg, scaled, scaled']
  have hle : b * 2 ^ max c d ≤ a * 2 ^ max c d := Nat.mul_le_mul_right _ hab
  have e : ((a * 2 ^ max c d : Nat) : Int) + -((b * 2 ^ max c d : Nat) : Int) = (((a - b) * 2 ^ max c d : Nat) : Int) := by
    rw [Nat.sub_mul, Int.ofNat_sub hle]; omega
  rw [e, Int.natAbs_natCast, min_neg]
  have es : (if (((a - b) * 2 ^ max c d : Nat) : Int) = 0 then (false && true) else decide ((((a - b) * 2 ^ max c d : Nat) : Int) < 0)) = false := by
    split
    · rfl
    · exact decide_eq_false (by omega)
  rw [es]
  simp only [Option.map_some, Ieee.Format.write]
  rw [nearest_scaled _ _ (by omega)]

theorem toInt_rep {x a : Nat} (hx : Rep x a) : (Ieee.double.read x).toInt .zero = some (a : Int) := by
  obtain ⟨c, hx⟩ := hx
  rw [hx]
  simp only [Ieee.Datum.toInt, Ieee.Datum.integral]
  have e : Ieee.Toward.zero.cut false ((a * 2 ^ c) <<< (-(c : Int)).toNat) (- -(c : Int)).toNat = a := by
    rw [show (-(c : Int)).toNat = 0 by omega, Nat.shiftLeft_eq, Nat.pow_zero, Nat.mul_one, show (- -(c : Int)).toNat = c by omega]
    by_cases h : a = 0
    · subst h; simp [Ieee.Toward.cut]
    · exact cut_zero_mul _ _ _ (by omega)
  rw [e]
  simp [Ieee.signed]

end Fp
end Go.Proofs.YtkobdephobaopaaGreatDoor

namespace Go.Proofs.YtkobdephobaopaaGreatDoor

namespace Sp

/-- The place behind a byte. -/
def on (p : Nat × Nat) (c : UInt8) : Nat × Nat := if c = 10 then (p.1 + 1, 1) else (p.1, p.2 + 1)

/-- Line and column of the end of a text. -/
def spot (l : List UInt8) : Nat × Nat := l.foldl on (1, 1)

theorem spot_nil : spot [] = (1, 1) := rfl
theorem spot_snoc (l : List UInt8) (c : UInt8) : spot (l ++ [c]) = on (spot l) c := by simp [spot]

theorem take_snoc (l : List UInt8) (k : Nat) (h : k < l.length) : l.take (k + 1) = l.take k ++ [l[k]] := by
  rw [List.take_succ_eq_append_getElem h]

theorem spot_succ (l : List UInt8) (k : Nat) (h : k < l.length) : spot (l.take (k + 1)) = on (spot (l.take k)) l[k] := by
  rw [take_snoc l k h, spot_snoc]

/-- A place from another beginning. -/
theorem foldl_from (l : List UInt8) : ∀ (a b : Nat), l.foldl on (a + 1, b + 1) = ((spot l).1 + a, if (spot l).1 = 1 then (spot l).2 + b else (spot l).2) ∧ 1 ≤ (spot l).1 := by
  suffices h : ∀ n (l : List UInt8), l.length = n → ∀ (a b : Nat), l.foldl on (a + 1, b + 1) = ((spot l).1 + a, if (spot l).1 = 1 then (spot l).2 + b else (spot l).2) ∧ 1 ≤ (spot l).1 from h l.length l rfl
  intro n
  induction n with
  | zero =>
    intro l hl a b
    have : l = [] := List.length_eq_zero_iff.1 hl
    subst this
    simp [spot, Nat.add_comm]
  | succ n ih =>
    intro l hl a b
    have hne : l ≠ [] := by intro e; rw [e] at hl; simp at hl
    obtain ⟨m, c, rfl⟩ : ∃ m c, l = m ++ [c] := ⟨l.dropLast, l.getLast hne, (List.dropLast_concat_getLast hne).symm⟩
    have hm : m.length = n := by simp at hl; omega
    obtain ⟨h1, h2⟩ := ih m hm a b
    rw [List.foldl_append, h1, spot_snoc]
    generalize spot m = p at *
    obtain ⟨x, y⟩ := p
    simp only [List.foldl_cons, List.foldl_nil, on]
    by_cases hc : c = 10
    · simp [hc]; simp at h2; omega
    · simp [hc]; simp at h2
      refine ⟨?_, h2⟩
      split <;> omega

theorem spot_append (l m : List UInt8) : spot (l ++ m) = ((spot m).1 + ((spot l).1 - 1), if (spot m).1 = 1 then (spot m).2 + ((spot l).2 - 1) else (spot m).2) := by
  have h1 : 1 ≤ (spot l).1 := (foldl_from l 0 0).2
  have h2 : 1 ≤ (spot l).2 := by
    by_cases hne : l = []
    · subst hne; decide
    · obtain ⟨k, c, rfl⟩ : ∃ m c, l = m ++ [c] := ⟨l.dropLast, l.getLast hne, (List.dropLast_concat_getLast hne).symm⟩
      rw [spot_snoc]
      unfold on
      split <;> simp
  have : spot (l ++ m) = m.foldl on ((spot l).1 - 1 + 1, (spot l).2 - 1 + 1) := by
    rw [show (spot l).1 - 1 + 1 = (spot l).1 by omega, show (spot l).2 - 1 + 1 = (spot l).2 by omega]
    simp [spot]
  rw [this, (foldl_from m _ _).1]

theorem line_pos (l : List UInt8) : 1 ≤ (spot l).1 := (foldl_from l 0 0).2
theorem col_pos (l : List UInt8) : 1 ≤ (spot l).2 := by
  by_cases hne : l = []
  · subst hne; decide
  · obtain ⟨k, c, rfl⟩ : ∃ m c, l = m ++ [c] := ⟨l.dropLast, l.getLast hne, (List.dropLast_concat_getLast hne).symm⟩
    rw [spot_snoc]
    unfold on
    split <;> simp

theorem spot_le (l : List UInt8) : (spot l).1 + (spot l).2 ≤ l.length + 2 := by
  suffices h : ∀ n (l : List UInt8), l.length = n → (spot l).1 + (spot l).2 ≤ l.length + 2 from h _ l rfl
  intro n
  induction n with
  | zero => intro l hl; have : l = [] := List.length_eq_zero_iff.1 hl; subst this; decide
  | succ n ih =>
    intro l hl
    have hne : l ≠ [] := by intro e; rw [e] at hl; simp at hl
    obtain ⟨m, c, rfl⟩ : ∃ m c, l = m ++ [c] := ⟨l.dropLast, l.getLast hne, (List.dropLast_concat_getLast hne).symm⟩
    have hm : m.length = n := by simp at hl; omega
    have := ih m hm
    have h2 := col_pos m
    rw [spot_snoc]
    unfold on
    split <;> simp <;> omega

/-- Places in order. -/
def Lt (p q : Nat × Nat) : Prop := p.1 < q.1 ∨ p.1 = q.1 ∧ p.2 < q.2

theorem lt_on (p : Nat × Nat) (c : UInt8) : Lt p (on p c) := by
  unfold Lt on
  split <;> simp

theorem Lt.trans {p q r : Nat × Nat} (h : Lt p q) (k : Lt q r) : Lt p r := by
  unfold Lt at *; omega

theorem rises (l : List UInt8) (i j : Nat) (hij : i < j) (hj : j ≤ l.length) : Lt (spot (l.take i)) (spot (l.take j)) := by
  induction j with
  | zero => omega
  | succ j ih =>
    rw [spot_succ l j (by omega)]
    by_cases h : i = j
    · subst h; exact lt_on _ _
    · exact (ih (by omega) (by omega)).trans (lt_on _ _)

theorem apart (l : List UInt8) (i j : Nat) (hi : i ≤ l.length) (hj : j ≤ l.length) : spot (l.take i) = spot (l.take j) ↔ i = j := by
  constructor
  · intro h
    rcases Nat.lt_trichotomy i j with hl | hl | hl
    · have := rises l i j hl hj; rw [h] at this; unfold Lt at this; omega
    · exact hl
    · have := rises l j i hl hi; rw [h] at this; unfold Lt at this; omega
  · intro h; rw [h]

theorem lt_iff (l : List UInt8) (i j : Nat) (hi : i ≤ l.length) (hj : j ≤ l.length) : Lt (spot (l.take i)) (spot (l.take j)) ↔ i < j := by
  constructor
  · intro h
    rcases Nat.lt_trichotomy i j with hl | hl | hl
    · exact hl
    · subst hl; unfold Lt at h; omega
    · have := rises l j i hl hi; unfold Lt at h this; omega
  · intro h; exact rises l i j h hj

theorem spot_line (l : List UInt8) : (spot l).1 = 1 + Go.Lib.countByte l 10 := by
  suffices h : ∀ n (l : List UInt8), l.length = n → (spot l).1 = 1 + l.count 10 from h _ l rfl
  intro n
  induction n with
  | zero => intro l hl; have : l = [] := List.length_eq_zero_iff.1 hl; subst this; decide
  | succ n ih =>
    intro l hl
    have hne : l ≠ [] := by intro e; rw [e] at hl; simp at hl
    obtain ⟨m, c, rfl⟩ : ∃ m c, l = m ++ [c] := ⟨l.dropLast, l.getLast hne, (List.dropLast_concat_getLast hne).symm⟩
    have hm : m.length = n := by simp at hl; omega
    have := ih m hm
    rw [spot_snoc, List.count_append]
    unfold on
    by_cases hc : c = 10
    · subst hc; simp; omega
    · simp [hc]; omega

/-- The column, by the last line feed ahead. -/
theorem spot_col (s : ByteArray) : ((spot s.data.toList).2 : Int) = s.size - Go.Lib.lastIndexByte s 10 := by
  unfold Go.Lib.lastIndexByte
  have key : ∀ k : Nat, k ≤ s.size → ((spot (s.data.toList.take k)).2 : Int) = k - Go.Lib.lastIdx s 10 k := by
    intro k
    induction k with
    | zero => intro _; simp [spot, Go.Lib.lastIdx]
    | succ k ih =>
      intro hk
      have hlen : s.data.toList.length = s.size := by simp
      have hk' : k < s.data.toList.length := by omega
      have := ih (by omega)
      rw [spot_succ _ k hk']
      have hb : s.data[k]! = s.data.toList[k] := by
        rw [getElem!_pos s.data k (by simpa using hk'), Array.getElem_toList]
      unfold on Go.Lib.lastIdx
      rw [hb]
      by_cases hc : s.data.toList[k] = 10
      · rw [if_pos hc, if_pos (by rw [hc]; rfl)]
        simp; omega
      · rw [if_neg hc, if_neg (by intro e; apply hc; apply UInt8.toNat_inj.1; show _ = 10; omega)]
        simp; omega
  have := key s.size (Nat.le_refl _)
  rwa [List.take_of_length_le (by simp)] at this

end Sp
end Go.Proofs.YtkobdephobaopaaGreatDoor

namespace Go.Proofs.YtkobdephobaopaaGreatDoor

/-- As Q; by a goto to label l: J l. -/
def jumps (J : Nat → Act → World → Prop) (Q : Exit → Act → World → Prop) : Exit → Act → World → Prop
  | .goto l, a, w => J l a w
  | e, a, w => Q e a w

theorem jumps_goto (J : Nat → Act → World → Prop) (Q : Exit → Act → World → Prop) (l : Nat) (a : Act) (w : World) : jumps J Q (.goto l) a w = J l a w := rfl
theorem jumps_ret (J : Nat → Act → World → Prop) (Q : Exit → Act → World → Prop) (a : Act) (w : World) : jumps J Q .ret a w = Q .ret a w := rfl

theorem wp_scope_many {P : Program} {a : Act} {w : World} {Q : Exit → Act → World → Prop} {c : Code} (J : Nat → Act → World → Prop) (μ : Nat → Act → World → Nat)
    (first : c.wp P (jumps J Q) a w)
    (pass : ∀ l a w, J l a w → ∃ r, findLabel c l = some r ∧ r.wp P (jumps (fun l' a' w' => J l' a' w' ∧ μ l' a' w' < μ l a w) Q) a w) : (Code.scope c).wp P Q a w := by
  intro b k cs
  have key : ∀ n l a w, μ l a w = n → J l a w → ∃ rest, findLabel c l = some rest ∧ ∃ e a' w', Q e a' w' ∧ Arrives P (lone (b.at a (.code rest :: .inScope c :: k)) cs w) b k cs e a' w' := by
    intro n
    induction n using Nat.strongRecOn with
    | _ n ih =>
      intro l a w hn hJ
      obtain ⟨rest, hf, hw⟩ := pass l a w hJ
      refine ⟨rest, hf, ?_⟩
      obtain ⟨e, a₁, w₁, hq, harr⟩ := hw b (.inScope c :: k) cs
      cases e with
      | normal => exact ⟨.normal, a₁, w₁, hq, Steps.trans harr (.one step_inScope)⟩
      | exit id => exact ⟨.exit id, a₁, w₁, hq, fun k' hk => harr k' (by simp [exitTo, hk])⟩
      | goto l' =>
        obtain ⟨hJ', hlt⟩ := hq
        obtain ⟨r', hf', e₂, a₂, w₂, hq₂, harr₂⟩ := ih _ (by omega) l' a₁ w₁ rfl hJ'
        have hg : gotoIn l' (.inScope c :: k) = some (.code r' :: .inScope c :: k) := by simp [gotoIn, hf']
        exact ⟨e₂, a₂, w₂, hq₂, .of_steps (harr _ hg) harr₂⟩
      | ret => exact ⟨_, a₁, w₁, hq, harr⟩
      | panic ch => exact ⟨_, a₁, w₁, hq, harr⟩
      | outgrown => exact ⟨_, a₁, w₁, hq, harr⟩
  obtain ⟨e, a₁, w₁, hq, harr⟩ := first b (.inScope c :: k) cs
  cases e with
  | normal => exact ⟨.normal, a₁, w₁, hq, .head step_scope (Steps.trans harr (.one step_inScope))⟩
  | exit id => exact ⟨.exit id, a₁, w₁, hq, fun k' hk => .head step_scope (harr k' (by simp [exitTo, hk]))⟩
  | goto l' =>
    obtain ⟨r', hf', e₂, a₂, w₂, hq₂, harr₂⟩ := key _ l' a₁ w₁ rfl hq
    have hg : gotoIn l' (.inScope c :: k) = some (.code r' :: .inScope c :: k) := by simp [gotoIn, hf']
    exact ⟨e₂, a₂, w₂, hq₂, .of_steps (.head step_scope (harr _ hg)) harr₂⟩
  | ret => exact ⟨_, a₁, w₁, hq, .of_steps (.one step_scope) harr⟩
  | panic ch => exact ⟨_, a₁, w₁, hq, .of_steps (.one step_scope) harr⟩
  | outgrown => exact ⟨_, a₁, w₁, hq, .of_steps (.one step_scope) harr⟩

/-- The code within the first scope of a body. -/
def scopeIn : Code → Option Code
  | .scope c => some c
  | .seq a b => match scopeIn a with | some c => some c | none => scopeIn b
  | _ => none

end Go.Proofs.YtkobdephobaopaaGreatDoor

namespace Go.Proofs.YtkobdephobaopaaGreatDoor
open Go.RowKit



theorem lower_def (c : UInt8) : Lx.lower c = (decide (97 ≤ (c.toNat : Int)) && decide ((c.toNat : Int) ≤ 122)) := rfl
theorem digit_def (c : UInt8) : Lx.digit c = (decide (48 ≤ (c.toNat : Int)) && decide ((c.toNat : Int) ≤ 57)) := rfl

set_option maxHeartbeats 400000 in
theorem isLetter_any (c : UInt8) (w : World) : Calls Tryz.prog 82 #[.int .u8 (c.toNat : Int)] w fun e w' => e = .returned (.bool (Lx.lower c)) ∧ w' = w := by
  have H : Hid (Lx.lower c = _) := lower_def c
  generalize (c.toNat : Int) = x at *
  by_cases h : 97 ≤ x
  · go_enter Tryz.func82, Tryz.ntmps82
    go_wp2
    go_ret
    exact ⟨ret_bool (by rw [H.out]; simp [h]), rfl⟩
  · have hd : decide (97 ≤ x) = false := decide_eq_false h
    go_enter Tryz.func82, Tryz.ntmps82
    go_wp2
    go_ret
    exact ⟨ret_bool (by rw [H.out, hd]; rfl), rfl⟩

set_option maxHeartbeats 400000 in
theorem isDigit_any (c : UInt8) (w : World) : Calls Tryz.prog 83 #[.int .u8 (c.toNat : Int)] w fun e w' => e = .returned (.bool (Lx.digit c)) ∧ w' = w := by
  have H : Hid (Lx.digit c = _) := digit_def c
  generalize (c.toNat : Int) = x at *
  by_cases h : 48 ≤ x
  · go_enter Tryz.func83, Tryz.ntmps83
    go_wp2
    go_ret
    exact ⟨ret_bool (by rw [H.out]; simp [h]), rfl⟩
  · have hd : decide (48 ≤ x) = false := decide_eq_false h
    go_enter Tryz.func83, Tryz.ntmps83
    go_wp2
    go_ret
    exact ⟨ret_bool (by rw [H.out, hd]; rfl), rfl⟩

theorem isLetter_at (c : UInt8) (r : Bool) (h : Lx.lower c = r) (w : World) : Calls Tryz.prog 82 #[.int .u8 (c.toNat : Int)] w fun e w' => e = .returned (.bool r) ∧ w' = w := h ▸ isLetter_any c w
theorem isDigit_at (c : UInt8) (r : Bool) (h : Lx.digit c = r) (w : World) : Calls Tryz.prog 83 #[.int .u8 (c.toNat : Int)] w fun e w' => e = .returned (.bool r) ∧ w' = w := h ▸ isDigit_any c w
set_option maxHeartbeats 400000 in
theorem goesOn_at (c : UInt8) (r : Bool) (h : Lx.goes c = r) (w : World) : Calls Tryz.prog 84 #[.int .u8 (c.toNat : Int)] w fun e w' => e = .returned (.bool r) ∧ w' = w := by
  have HG : Hid (Lx.goes c = r) := h
  clear h
  cases hl : Lx.lower c with
  | true =>
    have L : Hid (∀ w, _) := isLetter_at c true hl
    have HL : Hid (Lx.lower c = true) := hl
    clear hl
    go_enter Tryz.func84, Tryz.ntmps84
    go_wp2_with fail
    refine (L.out _).mono ?_
    rintro e w1 ⟨rfl, rfl⟩
    go_wp2
    go_ret
    exact ⟨ret_bool (by rw [← HG.out, Lx.goes, HL.out]; rfl), rfl⟩
  | false =>
    have L : Hid (∀ w, _) := isLetter_at c false hl
    have D : Hid (∀ w, _) := isDigit_any c
    have HL : Hid (Lx.lower c = false) := hl
    clear hl
    go_enter Tryz.func84, Tryz.ntmps84
    go_wp2_with fail
    refine (L.out _).mono ?_
    rintro e w1 ⟨rfl, rfl⟩
    go_wp2_with fail
    refine (D.out _).mono ?_
    rintro e w1 ⟨rfl, rfl⟩
    go_wp2
    go_ret
    exact ⟨ret_bool (by rw [← HG.out, Lx.goes, HL.out]; rfl), rfl⟩



set_option maxHeartbeats 400000 in
theorem pick_any (n m : Int) (w : World) (hm : 0 < m) (hm2 : m ≤ 4611686018427387904) :
    Calls Tryz.prog 26 #[.int .i64 n, .int .i64 m] w fun e w' => e = .returned (.int .i64 (n % m)) ∧ w' = w := by
  have e1 := tmod_pos n m hm
  obtain ⟨b1, b2⟩ := tmod_lt n m hm
  have H : Hid (n % m = if n.tmod m < 0 then n.tmod m + m else n.tmod m) := e1
  clear e1
  have hz : (m == 0) = false := by simp; omega
  go_enter Tryz.func26, Tryz.ntmps26
  go_wp2
  all_goals
    go_ret
    refine ⟨ret_int ?_, rfl⟩
    rw [H.out]
    first | rw [if_pos (by omega)] | rw [if_neg (by omega)]

theorem toList_extract (s : ByteArray) (k : Nat) : (s.extract 0 k).data.toList = s.data.toList.take k := by
  simp [ByteArray.data_extract]

theorem extract_all (s : ByteArray) (k : Nat) (h : s.size ≤ k) : s.extract 0 k = s := by
  apply ByteArray.ext
  apply Array.ext'
  rw [toList_extract, List.take_of_length_le (by simpa using h)]

end Go.Proofs.YtkobdephobaopaaGreatDoor
