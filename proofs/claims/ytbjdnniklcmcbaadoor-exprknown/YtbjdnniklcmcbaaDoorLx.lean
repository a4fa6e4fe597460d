/- What a text is made of, said plainly: tokens of a text's bytes. No program, no condition. -/
import Derived.Lib.ParseIntBTie
import Derived.Lib.ParseIntB
namespace Go.Proofs.YtbjdnniklcmcbaaDoor

namespace Lx

def lower (c : UInt8) : Bool := decide (97 ≤ (c.toNat : Int)) && decide ((c.toNat : Int) ≤ 122)
def digit (c : UInt8) : Bool := decide (48 ≤ (c.toNat : Int)) && decide ((c.toNat : Int) ≤ 57)
def goes (c : UInt8) : Bool := lower c || digit c
def blank (c : UInt8) : Bool := c == 32 || c == 9 || c == 10
def noFeed (c : UInt8) : Bool := c != 10
/-- The signs of one byte. -/
def signs : List UInt8 := [61, 60, 43, 45, 42, 47, 37, 40, 41, 123, 125]

/-- What digits say. -/
def val (d : List UInt8) : Nat := d.foldl (fun a c => a * 10 + (c.toNat - 48)) 0
/-- The number that digits say, if they may say it. -/
def num (d : List UInt8) : Option Nat :=
  if 1 < d.length ∧ d.head? = some 48 then none else if val d < 9223372036854775808 then some (val d) else none

/-- The token at the head of what is left: kind, length, number. -/
def one : List UInt8 → Option (Nat × Nat × Nat)
  | [] => none
  | c :: r =>
    if lower c then (if 1 + (r.takeWhile goes).length ≤ 12 then some (1, 1 + (r.takeWhile goes).length, 0) else none)
    else if digit c then (num (c :: r.takeWhile digit)).map fun n => (2, 1 + (r.takeWhile digit).length, n)
    else if c = 61 ∧ r.head? = some 61 then some (3, 2, 0)
    else if signs.contains c then some (3, 1, 0)
    else none

theorem one_cons (c : UInt8) (r : List UInt8) : one (c :: r) =
    if lower c then (if 1 + (r.takeWhile goes).length ≤ 12 then some (1, 1 + (r.takeWhile goes).length, 0) else none)
    else if digit c then (num (c :: r.takeWhile digit)).map fun n => (2, 1 + (r.takeWhile digit).length, n)
    else if c = 61 ∧ r.head? = some 61 then some (3, 2, 0)
    else if signs.contains c then some (3, 1, 0)
    else none := rfl

structure Tk where
  kind : Nat
  at' : Nat
  text : List UInt8
  n : Nat
deriving DecidableEq

inductive Out where
  | bad (at' : Nat)
  | good (ts : List Tk)
deriving DecidableEq

def Out.pre (acc : List Tk) : Out → Out
  | .bad p => .bad p
  | .good ts => .good (acc ++ ts)

/-- The tokens of what is left, which begins at byte p. -/
def run : Nat → Nat → List UInt8 → Out
  | 0, p, _ => .bad p
  | _ + 1, p, [] => .good [⟨4, p, [], 0⟩]
  | f + 1, p, c :: r =>
    if blank c then run f (p + 1) r
    else if c = 35 then run f (p + 1 + (r.takeWhile noFeed).length) (r.drop (r.takeWhile noFeed).length)
    else match one (c :: r) with
      | none => .bad p
      | some (k, len, n) => (run f (p + len) ((c :: r).drop len)).pre [⟨k, p, (c :: r).take len, n⟩]

/-- The tokens of a text. -/
def toks (l : List UInt8) : Out := if 6000 < l.length then .bad 6000 else run (l.length + 1) 0 l

theorem pre_nil (o : Out) : o.pre [] = o := by cases o <;> simp [Out.pre]
theorem pre_pre (a b : List Tk) (o : Out) : (o.pre b).pre a = o.pre (a ++ b) := by cases o <;> simp [Out.pre]

theorem one_len {l : List UInt8} {k len n : Nat} (h : one l = some (k, len, n)) : 1 ≤ len ∧ len ≤ l.length := by
  cases l with
  | nil => simp [one] at h
  | cons c r =>
    have h1 : (r.takeWhile goes).length ≤ r.length := List.Sublist.length_le (List.takeWhile_sublist _)
    have h2 : (r.takeWhile digit).length ≤ r.length := List.Sublist.length_le (List.takeWhile_sublist _)
    rw [one_cons] at h
    by_cases c1 : lower c = true
    · rw [if_pos c1] at h
      split at h
      · simp at h; simp; omega
      · cases h
    · rw [if_neg c1] at h
      by_cases c2 : digit c = true
      · rw [if_pos c2] at h
        cases hn : num (c :: r.takeWhile digit) with
        | none => rw [hn] at h; cases h
        | some m => rw [hn] at h; simp at h; simp; omega
      · rw [if_neg c2] at h
        by_cases c3 : c = 61 ∧ r.head? = some 61
        · rw [if_pos c3] at h
          cases r with
          | nil => simp at c3
          | cons d r => simp at h; simp; omega
        · rw [if_neg c3] at h
          by_cases c4 : signs.contains c = true
          · rw [if_pos c4] at h; simp at h; simp; omega
          · rw [if_neg c4] at h; cases h

theorem run_cons (f p : Nat) (c : UInt8) (r : List UInt8) : run (f + 1) p (c :: r) =
    if blank c then run f (p + 1) r
    else if c = 35 then run f (p + 1 + (r.takeWhile noFeed).length) (r.drop (r.takeWhile noFeed).length)
    else match one (c :: r) with
      | none => .bad p
      | some (k, len, n) => (run f (p + len) ((c :: r).drop len)).pre [⟨k, p, (c :: r).take len, n⟩] := rfl

/-- More fuel than enough changes nothing. -/
theorem run_fuel (f : Nat) : ∀ (g p : Nat) (l : List UInt8), l.length < f → l.length < g → run f p l = run g p l := by
  induction f with
  | zero => intro g p l h; omega
  | succ f ih =>
    intro g p l hf hg
    cases g with
    | zero => omega
    | succ g =>
      cases l with
      | nil => rfl
      | cons c r =>
        simp at hf hg
        have ht : (r.drop (r.takeWhile noFeed).length).length ≤ r.length := by simp
        rw [run_cons, run_cons]
        split
        · exact ih g _ r (by omega) (by omega)
        · split
          · exact ih g _ _ (by omega) (by omega)
          · cases h : one (c :: r) with
            | none => rfl
            | some q =>
              obtain ⟨k, len, n⟩ := q
              have hl := one_len h
              have : ((c :: r).drop len).length < f ∧ ((c :: r).drop len).length < g := by simp at hl ⊢; omega
              simp only [ih g (p + len) _ this.1 this.2]

/-- One step of the tokens from byte k of a text on. -/
theorem step_end (l : List UInt8) (f : Nat) (acc : List Tk) : (run (f + 1) l.length (l.drop l.length)).pre acc = .good (acc ++ [⟨4, l.length, [], 0⟩]) := by
  simp [run, Out.pre]

theorem drop_at (l : List UInt8) (k : Nat) (h : k < l.length) : l.drop k = l[k] :: l.drop (k + 1) := List.drop_eq_getElem_cons h

theorem step_blank (l : List UInt8) (f k : Nat) (acc : List Tk) (h : k < l.length) (hb : blank l[k] = true) : (run (f + 1) k (l.drop k)).pre acc = (run f (k + 1) (l.drop (k + 1))).pre acc := by
  rw [drop_at l k h, run_cons, if_pos hb]

/-- Where a run of bytes ends. -/
def span (p : UInt8 → Bool) (l : List UInt8) (k : Nat) : Nat := k + ((l.drop k).takeWhile p).length

theorem span_le (p : UInt8 → Bool) (l : List UInt8) (k : Nat) (h : k ≤ l.length) : span p l k ≤ l.length := by
  have : ((l.drop k).takeWhile p).length ≤ (l.drop k).length := List.Sublist.length_le (List.takeWhile_sublist _)
  rw [List.length_drop] at this
  unfold span; omega
theorem le_span (p : UInt8 → Bool) (l : List UInt8) (k : Nat) : k ≤ span p l k := by unfold span; omega
theorem span_yes (p : UInt8 → Bool) (l : List UInt8) (k : Nat) (h : k < l.length) (hp : p l[k] = true) : span p l k = span p l (k + 1) := by
  unfold span; rw [drop_at l k h, List.takeWhile_cons, if_pos hp, List.length_cons]; omega
theorem span_no (p : UInt8 → Bool) (l : List UInt8) (k : Nat) (h : k < l.length) (hp : p l[k] = false) : span p l k = k := by
  unfold span; rw [drop_at l k h, List.takeWhile_cons, if_neg (by rw [hp]; decide)]; rfl
theorem span_end (p : UInt8 → Bool) (l : List UInt8) : span p l l.length = l.length := by
  unfold span; simp

theorem step_note (l : List UInt8) (f k : Nat) (acc : List Tk) (h : k < l.length) (hb : l[k] = 35) : (run (f + 1) k (l.drop k)).pre acc = (run f (span noFeed l (k + 1)) (l.drop (span noFeed l (k + 1)))).pre acc := by
  rw [drop_at l k h, run_cons, if_neg (by rw [hb]; decide), if_pos hb]
  unfold span
  rw [List.drop_drop]

theorem step_one (l : List UInt8) (f k : Nat) (acc : List Tk) (h : k < l.length) (h1 : blank l[k] = false) (h2 : l[k] ≠ 35) {kd len n : Nat} (ho : one (l.drop k) = some (kd, len, n)) :
    (run (f + 1) k (l.drop k)).pre acc = (run f (k + len) (l.drop (k + len))).pre (acc ++ [⟨kd, k, (l.drop k).take len, n⟩]) := by
  rw [← pre_pre, ← List.drop_drop]
  congr 1
  rw [drop_at l k h] at ho ⊢
  rw [run_cons, if_neg (by rw [h1]; decide), if_neg h2, ho]

theorem step_none (l : List UInt8) (f k : Nat) (acc : List Tk) (h : k < l.length) (h1 : blank l[k] = false) (h2 : l[k] ≠ 35) (ho : one (l.drop k) = none) :
    (run (f + 1) k (l.drop k)).pre acc = .bad k := by
  rw [drop_at l k h] at ho ⊢
  rw [run_cons, if_neg (by rw [h1]; decide), if_neg h2, ho]
  rfl

end Lx
end Go.Proofs.YtbjdnniklcmcbaaDoor
