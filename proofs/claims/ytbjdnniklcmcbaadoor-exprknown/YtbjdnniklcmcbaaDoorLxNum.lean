/- What digits say, and what Go's own reader of numbers says of them. No program, no condition. -/
import Derived.Test.YtbjdnniklcmcbaaDoorLx
namespace Go.Proofs.YtbjdnniklcmcbaaDoor
namespace Lx

def valFrom (a : Nat) (d : List UInt8) : Nat := d.foldl (fun a c => a * 10 + (c.toNat - 48)) a
theorem val_eq (d : List UInt8) : val d = valFrom 0 d := rfl
theorem valFrom_ge (d : List UInt8) : ∀ a, a ≤ valFrom a d := by
  induction d with
  | nil => intro a; exact Nat.le_refl _
  | cons c r ih => intro a; have := ih (a * 10 + (c.toNat - 48)); show a ≤ valFrom (a * 10 + (c.toNat - 48)) r; omega

theorem digit_iff (c : UInt8) : digit c = true ↔ 48 ≤ c.toNat ∧ c.toNat ≤ 57 := by
  simp [digit]; omega

theorem parseM (d : List UInt8) : ∀ a, a ≤ 18446744073709551615 → (∀ c ∈ d, digit c = true) →
    Lib.parseUintM 18446744073709551615 a d = if valFrom a d ≤ 18446744073709551615 then .ok (valFrom a d) else .range := by
  induction d with
  | nil => intro a h _; rw [if_pos (show valFrom a [] ≤ _ from h)]; rfl
  | cons c r ih =>
    intro a h hd
    have hc := (digit_iff c).1 (hd c (by simp))
    have hv : valFrom a (c :: r) = valFrom (a * 10 + (c.toNat - 48)) r := rfl
    have hg := valFrom_ge r (a * 10 + (c.toNat - 48))
    rw [Lib.parseUintM, if_pos hc, hv]
    split
    · rw [if_neg (by omega)]
    · split
      · rw [if_neg (by omega)]
      · exact ih _ (by omega) fun x hx => hd x (by simp [hx])

theorem parse_digits (d : List UInt8) (hne : d ≠ []) (hd : ∀ c ∈ d, digit c = true) :
    Lib.parseIntB 64 d = if val d < 9223372036854775808 then .ok (val d : Int) else .range := by
  cases d with
  | nil => exact absurd rfl hne
  | cons c r =>
    have hc := (digit_iff c).1 (hd c (by simp))
    have h1 : ¬ (c.toNat = 43 ∨ c.toNat = 45) := by omega
    have h2 : ¬ c.toNat = 45 := by omega
    have hp := parseM (c :: r) 0 (by omega) hd
    have e : (2 : Nat) ^ 64 - 1 = 18446744073709551615 := by decide
    have e2 : (2 : Nat) ^ (64 - 1) = 9223372036854775808 := by decide
    unfold Lib.parseIntB
    rw [val_eq]
    generalize hV : valFrom 0 (c :: r) = V at *
    simp only [if_neg h1, Lib.parseUintB, if_neg hne, e, e2, hp]
    by_cases hv : V ≤ 18446744073709551615
    · rw [if_pos hv]
      simp only [h2]
      by_cases hw : V < 9223372036854775808
      · rw [if_pos hw]
        simp
        omega
      · rw [if_neg hw]
        simp
        omega
    · rw [if_neg hv, if_neg (by omega)]

theorem val_snoc (d : List UInt8) (i : Nat) (h : i < d.length) : val (d.take (i + 1)) = val (d.take i) * 10 + (d[i].toNat - 48) := by
  unfold val
  rw [List.take_succ_eq_append_getElem h, List.foldl_append]
  rfl

theorem val_take_le (d : List UInt8) (i : Nat) : val (d.take i) ≤ val d := by
  have e : val d = valFrom (val (d.take i)) (d.drop i) := by
    unfold val valFrom
    rw [← List.foldl_append, List.take_append_drop]
  rw [e]; exact valFrom_ge _ _

theorem takeWhile_all (p : UInt8 → Bool) (l : List UInt8) : ∀ c ∈ l.takeWhile p, p c = true := by
  induction l with
  | nil => simp
  | cons c r ih =>
    intro x hx
    rw [List.takeWhile_cons] at hx
    split at hx
    · rcases List.mem_cons.1 hx with rfl | h
      · assumption
      · exact ih x h
    · simp at hx

end Lx
end Go.Proofs.YtbjdnniklcmcbaaDoor
