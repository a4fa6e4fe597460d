/- Lines and columns of a text's bytes as plain numbers: what they are at each byte, that they rise, and how they stand to counts and last places of line feeds. No program, no condition. -/
import Derived.Lib.LastIndexByte
import Derived.Lib.Bytealg
namespace Go.Proofs.YteaopephdjoegaaGreatDoor

namespace Sp

/-- The place behind a byte. -/
def on (p : Nat × Nat) (c : UInt8) : Nat × Nat := if c = 10 then (p.1 + 1, 1) else (p.1, p.2 + 1)

/-- Line and column of the end of a text. -/
def spot (l : List UInt8) : Nat × Nat := l.foldl on (1, 1)

theorem spot_nil : spot [] = (1, 1) := rfl
theorem spot_snoc (l : List UInt8) (c : UInt8) : spot (l ++ [c]) = on (spot l) c := by simp [spot]

theorem take_snoc (l : List UInt8) (k : Nat) (h : k < l.length) : l.take (k + 1) = l.take k ++ [l[k]] := by
  rw [List.take_succ_eq_append_getElem h]

theorem spot_succ (l : List UInt8) (k : Nat) (h : k < l.length) : spot (l.take (k + 1)) = on (spot (l.take k)) l[k] := by
  rw [take_snoc l k h, spot_snoc]

/-- A place from another beginning. -/
theorem foldl_from (l : List UInt8) : ∀ (a b : Nat), l.foldl on (a + 1, b + 1) = ((spot l).1 + a, if (spot l).1 = 1 then (spot l).2 + b else (spot l).2) ∧ 1 ≤ (spot l).1 := by
  suffices h : ∀ n (l : List UInt8), l.length = n → ∀ (a b : Nat), l.foldl on (a + 1, b + 1) = ((spot l).1 + a, if (spot l).1 = 1 then (spot l).2 + b else (spot l).2) ∧ 1 ≤ (spot l).1 from h l.length l rfl
  intro n
  induction n with
  | zero =>
    intro l hl a b
    have : l = [] := List.length_eq_zero_iff.1 hl
    subst this
    simp [spot, Nat.add_comm]
  | succ n ih =>
    intro l hl a b
    have hne : l ≠ [] := by intro e; rw [e] at hl; simp at hl
    obtain ⟨m, c, rfl⟩ : ∃ m c, l = m ++ [c] := ⟨l.dropLast, l.getLast hne, (List.dropLast_concat_getLast hne).symm⟩
    have hm : m.length = n := by simp at hl; omega
    obtain ⟨h1, h2⟩ := ih m hm a b
    rw [List.foldl_append, h1, spot_snoc]
    generalize spot m = p at *
    obtain ⟨x, y⟩ := p
    simp only [List.foldl_cons, List.foldl_nil, on]
    by_cases hc : c = 10
    · simp [hc]; simp at h2; omega
    · simp [hc]; simp at h2
      refine ⟨?_, h2⟩
      split <;> omega

theorem spot_append (l m : List UInt8) : spot (l ++ m) = ((spot m).1 + ((spot l).1 - 1), if (spot m).1 = 1 then (spot m).2 + ((spot l).2 - 1) else (spot m).2) := by
  have h1 : 1 ≤ (spot l).1 := (foldl_from l 0 0).2
  have h2 : 1 ≤ (spot l).2 := by
    by_cases hne : l = []
    · subst hne; decide
    · obtain ⟨k, c, rfl⟩ : ∃ m c, l = m ++ [c] := ⟨l.dropLast, l.getLast hne, (List.dropLast_concat_getLast hne).symm⟩
      rw [spot_snoc]
      unfold on
      split <;> simp
  have : spot (l ++ m) = m.foldl on ((spot l).1 - 1 + 1, (spot l).2 - 1 + 1) := by
    rw [show (spot l).1 - 1 + 1 = (spot l).1 by omega, show (spot l).2 - 1 + 1 = (spot l).2 by omega]
    simp [spot]
  rw [this, (foldl_from m _ _).1]

theorem line_pos (l : List UInt8) : 1 ≤ (spot l).1 := (foldl_from l 0 0).2
theorem col_pos (l : List UInt8) : 1 ≤ (spot l).2 := by
  by_cases hne : l = []
  · subst hne; decide
  · obtain ⟨k, c, rfl⟩ : ∃ m c, l = m ++ [c] := ⟨l.dropLast, l.getLast hne, (List.dropLast_concat_getLast hne).symm⟩
    rw [spot_snoc]
    unfold on
    split <;> simp

theorem spot_le (l : List UInt8) : (spot l).1 + (spot l).2 ≤ l.length + 2 := by
  suffices h : ∀ n (l : List UInt8), l.length = n → (spot l).1 + (spot l).2 ≤ l.length + 2 from h _ l rfl
  intro n
  induction n with
  | zero => intro l hl; have : l = [] := List.length_eq_zero_iff.1 hl; subst this; decide
  | succ n ih =>
    intro l hl
    have hne : l ≠ [] := by intro e; rw [e] at hl; simp at hl
    obtain ⟨m, c, rfl⟩ : ∃ m c, l = m ++ [c] := ⟨l.dropLast, l.getLast hne, (List.dropLast_concat_getLast hne).symm⟩
    have hm : m.length = n := by simp at hl; omega
    have := ih m hm
    have h2 := col_pos m
    rw [spot_snoc]
    unfold on
    split <;> simp <;> omega

/-- Places in order. -/
def Lt (p q : Nat × Nat) : Prop := p.1 < q.1 ∨ p.1 = q.1 ∧ p.2 < q.2

theorem lt_on (p : Nat × Nat) (c : UInt8) : Lt p (on p c) := by
  unfold Lt on
  split <;> simp

theorem Lt.trans {p q r : Nat × Nat} (h : Lt p q) (k : Lt q r) : Lt p r := by
  unfold Lt at *; omega

theorem rises (l : List UInt8) (i j : Nat) (hij : i < j) (hj : j ≤ l.length) : Lt (spot (l.take i)) (spot (l.take j)) := by
  induction j with
  | zero => omega
  | succ j ih =>
    rw [spot_succ l j (by omega)]
    by_cases h : i = j
    · subst h; exact lt_on _ _
    · exact (ih (by omega) (by omega)).trans (lt_on _ _)

theorem apart (l : List UInt8) (i j : Nat) (hi : i ≤ l.length) (hj : j ≤ l.length) : spot (l.take i) = spot (l.take j) ↔ i = j := by
  constructor
  · intro h
    rcases Nat.lt_trichotomy i j with hl | hl | hl
    · have := rises l i j hl hj; rw [h] at this; unfold Lt at this; omega
    · exact hl
    · have := rises l j i hl hi; rw [h] at this; unfold Lt at this; omega
  · intro h; rw [h]

theorem lt_iff (l : List UInt8) (i j : Nat) (hi : i ≤ l.length) (hj : j ≤ l.length) : Lt (spot (l.take i)) (spot (l.take j)) ↔ i < j := by
  constructor
  · intro h
    rcases Nat.lt_trichotomy i j with hl | hl | hl
    · exact hl
    · subst hl; unfold Lt at h; omega
    · have := rises l j i hl hi; unfold Lt at h this; omega
  · intro h; exact rises l i j h hj

theorem spot_line (l : List UInt8) : (spot l).1 = 1 + Go.Lib.countByte l 10 := by
  suffices h : ∀ n (l : List UInt8), l.length = n → (spot l).1 = 1 + l.count 10 from h _ l rfl
  intro n
  induction n with
  | zero => intro l hl; have : l = [] := List.length_eq_zero_iff.1 hl; subst this; decide
  | succ n ih =>
    intro l hl
    have hne : l ≠ [] := by intro e; rw [e] at hl; simp at hl
    obtain ⟨m, c, rfl⟩ : ∃ m c, l = m ++ [c] := ⟨l.dropLast, l.getLast hne, (List.dropLast_concat_getLast hne).symm⟩
    have hm : m.length = n := by simp at hl; omega
    have := ih m hm
    rw [spot_snoc, List.count_append]
    unfold on
    by_cases hc : c = 10
    · subst hc; simp; omega
    · simp [hc]; omega

/-- The column, by the last line feed ahead. -/
theorem spot_col (s : ByteArray) : ((spot s.data.toList).2 : Int) = s.size - Go.Lib.lastIndexByte s 10 := by
  unfold Go.Lib.lastIndexByte
  have key : ∀ k : Nat, k ≤ s.size → ((spot (s.data.toList.take k)).2 : Int) = k - Go.Lib.lastIdx s 10 k := by
    intro k
    induction k with
    | zero => intro _; simp [spot, Go.Lib.lastIdx]
    | succ k ih =>
      intro hk
      have hlen : s.data.toList.length = s.size := by simp
      have hk' : k < s.data.toList.length := by omega
      have := ih (by omega)
      rw [spot_succ _ k hk']
      have hb : s.data[k]! = s.data.toList[k] := by
        rw [getElem!_pos s.data k (by simpa using hk'), Array.getElem_toList]
      unfold on Go.Lib.lastIdx
      rw [hb]
      by_cases hc : s.data.toList[k] = 10
      · rw [if_pos hc, if_pos (by rw [hc]; rfl)]
        simp; omega
      · rw [if_neg hc, if_neg (by intro e; apply hc; apply UInt8.toNat_inj.1; show _ = 10; omega)]
        simp; omega
  have := key s.size (Nat.le_refl _)
  rwa [List.take_of_length_le (by simp)] at this

end Sp
end Go.Proofs.YteaopephdjoegaaGreatDoor
