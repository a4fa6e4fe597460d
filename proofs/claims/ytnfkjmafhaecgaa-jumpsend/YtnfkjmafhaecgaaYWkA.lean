/- WkA -/
import Derived.Laws.FloatArith
import Derived.Laws.ComplexArith
import Derived.Lib.LastIndexByte
import Derived.Lib.Bytealg
import Derived.ScopeJumps
import Derived.Test.YtnfkjmafhaecgaaYKpA
import Derived.Test.YtnfkjmafhaecgaaRows
import Derived.WalkKit
import Derived.WalkSpells
import Derived.WalkLawsBesides
import Derived.Test.YtnfkjmafhaecgaaYLxA

namespace Go.Proofs.Ytnfkjmafhaecgaa
open Go
namespace Fp
theorem log2_mul_pow (m c : Nat) (h : 0 < m) : (m * 2 ^ c).log2 = m.log2 + c := by
  have h1 : m * 2 ^ c ≠ 0 := Nat.ne_of_gt (Nat.mul_pos h (Nat.two_pow_pos c))
  have hm : m ≠ 0 := by omega
  have a : 2 ^ m.log2 ≤ m := Nat.log2_self_le hm
  have b : m < 2 ^ (m.log2 + 1) := Nat.lt_log2_self
  refine Nat.le_antisymm ?_ ?_
  · have : (m * 2 ^ c).log2 < m.log2 + c + 1 := by
      rw [Nat.log2_lt h1, show m.log2 + c + 1 = (m.log2 + 1) + c by omega, Nat.pow_add 2 (m.log2 + 1) c]
      exact Nat.mul_lt_mul_of_pos_right b (Nat.two_pow_pos c)
    omega
  · rw [Nat.le_log2 h1, Nat.pow_add]
    exact Nat.mul_le_mul_right _ a
theorem log2_le52 (m : Nat) (h0 : 0 < m) (h : m < 2 ^ 53) : m.log2 ≤ 52 := by
  have := (Nat.log2_lt (n := m) (k := 53) (by omega)).2 h
  omega
theorem cut_none (neg : Bool) (n : Nat) : Ieee.Toward.even.cut neg n 0 = n := by
  simp [Ieee.Toward.cut, Nat.mod_one]
theorem cut_even_mul (neg : Bool) (k d : Nat) (hk : 0 < k) : Ieee.Toward.even.cut neg (k * 2 ^ d) d = k := by
  have hl : d ≤ (k * 2 ^ d).log2 + 2 := by rw [log2_mul_pow k d hk]; omega
  have hp : 0 < 2 ^ d := Nat.two_pow_pos d
  simp only [Ieee.Toward.cut]
  rw [Nat.min_eq_left hl, Nat.shiftLeft_eq, Nat.one_mul, Nat.mul_div_cancel _ hp, Nat.mul_mod_left]
  have e1 : decide (2 ^ d < 2 * 0) = false := by simp
  have e2 : (2 ^ d == 2 * 0) = false := by simp
  rw [e1, e2]
  simp
/-- The word of a whole number: its rung. -/
def rung (m : Nat) : Nat := if m = 0 then 0 else (m.log2 + 1022) * 2 ^ 52 + m * 2 ^ (52 - m.log2)
theorem full (m : Nat) (h0 : 0 < m) (h : m < 2 ^ 53) : 2 ^ 52 ≤ m * 2 ^ (52 - m.log2) ∧ m * 2 ^ (52 - m.log2) < 2 ^ 53 := by
  have hl := log2_le52 m h0 h
  have a : 2 ^ m.log2 ≤ m := Nat.log2_self_le (by omega)
  have b : m < 2 ^ (m.log2 + 1) := Nat.lt_log2_self
  have e1 : 2 ^ 52 = 2 ^ m.log2 * 2 ^ (52 - m.log2) := by rw [← Nat.pow_add]; congr 1; omega
  have e2 : 2 ^ 53 = 2 ^ (m.log2 + 1) * 2 ^ (52 - m.log2) := by rw [← Nat.pow_add]; congr 1; omega
  constructor
  · rw [e1]; exact Nat.mul_le_mul_right _ a
  · rw [e2]; exact Nat.mul_lt_mul_of_pos_right b (Nat.two_pow_pos _)
theorem double_least : Ieee.double.leastPlace = -1074 := by decide
theorem double_frac : Ieee.double.fractionBits = 52 := rfl
theorem double_binade : Ieee.double.binade = 2 ^ 52 := rfl
theorem double_inf : Ieee.double.infRung = 2047 * 2 ^ 52 := by decide
theorem min_left (R K : Nat) (h : R ≤ 1074 * 2 ^ 52) (h2 : K < 2 ^ 53) : min (R + K) (2047 * 2 ^ 52) = R + K := by omega
theorem nearest_scaled (m c : Nat) (h : m < 2 ^ 53) : Ieee.double.nearest false (m * 2 ^ c) (-(c : Int)) = rung m := by
  unfold rung
  by_cases h0 : m = 0
  · subst h0; simp [Ieee.Format.nearest, Ieee.Format.word]
  have hp : 0 < m := by omega
  have hne : m * 2 ^ c ≠ 0 := Nat.ne_of_gt (Nat.mul_pos hp (Nat.two_pow_pos c))
  have hl := log2_le52 m hp h
  obtain ⟨f1, f2⟩ := full m hp h
  rw [if_neg h0]
  simp only [Ieee.Format.nearest]
  rw [if_neg hne, log2_mul_pow m c hp, double_frac, double_least, double_binade, double_inf]
  have elast : max (-(c : Int) + ((m.log2 + c : Nat) : Int) - ((52 : Nat) : Int)) (-1074) = (m.log2 : Int) - 52 := by omega
  rw [elast]
  have ekept : Ieee.Toward.even.cut false ((m * 2 ^ c) <<< (-(c : Int) - ((m.log2 : Int) - 52)).toNat) ((m.log2 : Int) - 52 - -(c : Int)).toNat = m * 2 ^ (52 - m.log2) := by
    by_cases hc : c ≤ 52 - m.log2
    · rw [show ((m.log2 : Int) - 52 - -(c : Int)).toNat = 0 by omega, cut_none, Nat.shiftLeft_eq, show (-(c : Int) - ((m.log2 : Int) - 52)).toNat = (52 - m.log2) - c by omega, Nat.mul_assoc, ← Nat.pow_add]
      congr 2; omega
    · rw [show (-(c : Int) - ((m.log2 : Int) - 52)).toNat = 0 by omega, Nat.shiftLeft_eq, Nat.pow_zero, Nat.mul_one, show ((m.log2 : Int) - 52 - -(c : Int)).toNat = c - (52 - m.log2) by omega]
      have e : m * 2 ^ c = m * 2 ^ (52 - m.log2) * 2 ^ (c - (52 - m.log2)) := by
        rw [Nat.mul_assoc, ← Nat.pow_add]; congr 2; omega
      rw [e, cut_even_mul _ _ _ (by omega)]
  rw [ekept, show ((m.log2 : Int) - 52 - -1074).toNat = m.log2 + 1022 by omega]
  unfold Ieee.Format.word
  simp only [Bool.false_eq_true, if_false]
  have b1 : (m.log2 + 1022) * 2 ^ 52 ≤ 1074 * 2 ^ 52 := Nat.mul_le_mul_right _ (by omega)
  exact min_left _ _ b1 f2
theorem floatOfInt_eq (m : Nat) (h : m < 2 ^ 53) : floatOfInt .f64 (m : Int) = rung m := by
  have := nearest_scaled m 0 h
  have hd : decide ((m : Int) < 0) = false := decide_eq_false (by omega)
  simp only [floatOfInt, FloatKind.nearest, FloatKind.encode, FloatKind.format, Ieee.Format.write, hd, Int.natAbs_natCast]
  simpa using this
end Fp
end Go.Proofs.Ytnfkjmafhaecgaa
namespace Go.Proofs.Ytnfkjmafhaecgaa
namespace Sp
/-- The place behind a byte. -/
def on (p : Nat × Nat) (c : UInt8) : Nat × Nat := if c = 10 then (p.1 + 1, 1) else (p.1, p.2 + 1)
/-- Line and column of the end of a text. -/
def spot (l : List UInt8) : Nat × Nat := l.foldl on (1, 1)
theorem spot_snoc (l : List UInt8) (c : UInt8) : spot (l ++ [c]) = on (spot l) c := by simp [spot]
theorem take_snoc (l : List UInt8) (k : Nat) (h : k < l.length) : l.take (k + 1) = l.take k ++ [l[k]] := by
  rw [List.take_succ_eq_append_getElem h]
theorem spot_succ (l : List UInt8) (k : Nat) (h : k < l.length) : spot (l.take (k + 1)) = on (spot (l.take k)) l[k] := by
  rw [take_snoc l k h, spot_snoc]
theorem col_pos (l : List UInt8) : 1 ≤ (spot l).2 := by
  by_cases hne : l = []
  · subst hne; decide
  · obtain ⟨k, c, rfl⟩ : ∃ m c, l = m ++ [c] := ⟨l.dropLast, l.getLast hne, (List.dropLast_concat_getLast hne).symm⟩
    rw [spot_snoc]
    unfold on
    split <;> simp
theorem spot_le (l : List UInt8) : (spot l).1 + (spot l).2 ≤ l.length + 2 := by
  suffices h : ∀ n (l : List UInt8), l.length = n → (spot l).1 + (spot l).2 ≤ l.length + 2 from h _ l rfl
  intro n
  induction n with
  | zero => intro l hl; have : l = [] := List.length_eq_zero_iff.1 hl; subst this; decide
  | succ n ih =>
    intro l hl
    have hne : l ≠ [] := by intro e; rw [e] at hl; simp at hl
    obtain ⟨m, c, rfl⟩ : ∃ m c, l = m ++ [c] := ⟨l.dropLast, l.getLast hne, (List.dropLast_concat_getLast hne).symm⟩
    have hm : m.length = n := by simp at hl; omega
    have := ih m hm
    have h2 := col_pos m
    rw [spot_snoc]
    unfold on
    split <;> simp <;> omega
/-- Places in order. -/
def Lt (p q : Nat × Nat) : Prop := p.1 < q.1 ∨ p.1 = q.1 ∧ p.2 < q.2
theorem lt_on (p : Nat × Nat) (c : UInt8) : Lt p (on p c) := by
  unfold Lt on
  split <;> simp
theorem Lt.trans {p q r : Nat × Nat} (h : Lt p q) (k : Lt q r) : Lt p r := by
  unfold Lt at *; omega
theorem rises (l : List UInt8) (i j : Nat) (hij : i < j) (hj : j ≤ l.length) : Lt (spot (l.take i)) (spot (l.take j)) := by
  induction j with
  | zero => omega
  | succ j ih =>
    rw [spot_succ l j (by omega)]
    by_cases h : i = j
    · subst h; exact lt_on _ _
    · exact (ih (by omega) (by omega)).trans (lt_on _ _)
theorem apart (l : List UInt8) (i j : Nat) (hi : i ≤ l.length) (hj : j ≤ l.length) : spot (l.take i) = spot (l.take j) ↔ i = j := by
  constructor
  · intro h
    rcases Nat.lt_trichotomy i j with hl | hl | hl
    · have := rises l i j hl hj; rw [h] at this; unfold Lt at this; omega
    · exact hl
    · have := rises l j i hl hi; rw [h] at this; unfold Lt at this; omega
  · intro h; rw [h]
end Sp
end Go.Proofs.Ytnfkjmafhaecgaa
namespace Go.Proofs.Ytnfkjmafhaecgaa
end Go.Proofs.Ytnfkjmafhaecgaa
namespace Go.Proofs.Ytnfkjmafhaecgaa
open Go.RowKit
theorem lower_def (c : UInt8) : Lx.lower c = (decide (97 ≤ (c.toNat : Int)) && decide ((c.toNat : Int) ≤ 122)) := rfl
theorem digit_def (c : UInt8) : Lx.digit c = (decide (48 ≤ (c.toNat : Int)) && decide ((c.toNat : Int) ≤ 57)) := rfl
theorem toList_extract (s : ByteArray) (k : Nat) : (s.extract 0 k).data.toList = s.data.toList.take k := by
  simp [ByteArray.data_extract]
end Go.Proofs.Ytnfkjmafhaecgaa
