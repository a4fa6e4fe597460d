/- What a text is made of, said plainly: tokens of a text's bytes. No program, no condition. What digits say, and what Go's own reader of numbers says of them. No program, no condition. Tokens of texts that are put together; words; what stands between tokens: said plainly. No program, no condition. What stands between tokens, and tokens of texts with blanks and notes between: said plainly. No program, no condition. -/
import Derived.Lib.ParseIntBTie
import Derived.Lib.ParseIntB

namespace Go.Proofs.YtkobdephobaopaaGreatDoor

namespace Lx

def lower (c : UInt8) : Bool := decide (97 ≤ (c.toNat : Int)) && decide ((c.toNat : Int) ≤ 122)
def digit (c : UInt8) : Bool := decide (48 ≤ (c.toNat : Int)) && decide ((c.toNat : Int) ≤ 57)
def goes (c : UInt8) : Bool := lower c || digit c
def blank (c : UInt8) : Bool := c == 32 || c == 9 || c == 10
def noFeed (c : UInt8) : Bool := c != 10
/-- The signs of one byte. -/
def signs : List UInt8 := [61, 60, 43, 45, 42, 47, 37, 40, 41, 123, 125]

/-- What digits say. -/
def val (d : List UInt8) : Nat := d.foldl (fun a c => a * 10 + (c.toNat - 48)) 0
/-- The number that digits say, if they may say it. -/
def num (d : List UInt8) : Option Nat :=
  if 1 < d.length ∧ d.head? = some 48 then none else if val d < 9223372036854775808 then some (val d) else none

/-- The token at the head of what is left: kind, length, number. -/
def one : List UInt8 → Option (Nat × Nat × Nat)
  | [] => none
  | c :: r =>
    if lower c then (if 1 + (r.takeWhile goes).length ≤ 12 then some (1, 1 + (r.takeWhile goes).length, 0) else none)
    else if digit c then (num (c :: r.takeWhile digit)).map fun n => (2, 1 + (r.takeWhile digit).length, n)
    else if c = 61 ∧ r.head? = some 61 then some (3, 2, 0)
    else if signs.contains c then some (3, 1, 0)
    else none

theorem one_cons (c : UInt8) (r : List UInt8) : one (c :: r) =
    if lower c then (if 1 + (r.takeWhile goes).length ≤ 12 then some (1, 1 + (r.takeWhile goes).length, 0) else none)
    else if digit c then (num (c :: r.takeWhile digit)).map fun n => (2, 1 + (r.takeWhile digit).length, n)
    else if c = 61 ∧ r.head? = some 61 then some (3, 2, 0)
    else if signs.contains c then some (3, 1, 0)
    else none := rfl

structure Tk where
  kind : Nat
  at' : Nat
  text : List UInt8
  n : Nat
deriving DecidableEq

inductive Out where
  | bad (at' : Nat)
  | good (ts : List Tk)
deriving DecidableEq

def Out.pre (acc : List Tk) : Out → Out
  | .bad p => .bad p
  | .good ts => .good (acc ++ ts)

/-- The tokens of what is left, which begins at byte p. -/
def run : Nat → Nat → List UInt8 → Out
  | 0, p, _ => .bad p
  | _ + 1, p, [] => .good [⟨4, p, [], 0⟩]
  | f + 1, p, c :: r =>
    if blank c then run f (p + 1) r
    else if c = 35 then run f (p + 1 + (r.takeWhile noFeed).length) (r.drop (r.takeWhile noFeed).length)
    else match one (c :: r) with
      | none => .bad p
      | some (k, len, n) => (run f (p + len) ((c :: r).drop len)).pre [⟨k, p, (c :: r).take len, n⟩]

/-- The tokens of a text. -/
def toks (l : List UInt8) : Out := if 6000 < l.length then .bad 6000 else run (l.length + 1) 0 l

theorem pre_nil (o : Out) : o.pre [] = o := by cases o <;> simp [Out.pre]
theorem pre_pre (a b : List Tk) (o : Out) : (o.pre b).pre a = o.pre (a ++ b) := by cases o <;> simp [Out.pre]

theorem one_len {l : List UInt8} {k len n : Nat} (h : one l = some (k, len, n)) : 1 ≤ len ∧ len ≤ l.length := by
  cases l with
  | nil => simp [one] at h
  | cons c r =>
    have h1 : (r.takeWhile goes).length ≤ r.length := List.Sublist.length_le (List.takeWhile_sublist _)
    have h2 : (r.takeWhile digit).length ≤ r.length := List.Sublist.length_le (List.takeWhile_sublist _)
    rw [one_cons] at h
    by_cases c1 : lower c = true
    · rw [if_pos c1] at h
      split at h
      · simp at h; simp; omega
      · cases h
    · rw [if_neg c1] at h
      by_cases c2 : digit c = true
      · rw [if_pos c2] at h
        cases hn : num (c :: r.takeWhile digit) with
        | none => rw [hn] at h; cases h
        | some m => rw [hn] at h; simp at h; simp; omega
      · rw [if_neg c2] at h
        by_cases c3 : c = 61 ∧ r.head? = some 61
        · rw [if_pos c3] at h
          cases r with
          | nil => simp at c3
          | cons d r => simp at h; simp; omega
        · rw [if_neg c3] at h
          by_cases c4 : signs.contains c = true
          · rw [if_pos c4] at h; simp at h; simp; omega
          · rw [if_neg c4] at h; cases h

theorem run_cons (f p : Nat) (c : UInt8) (r : List UInt8) : run (f + 1) p (c :: r) =
    if blank c then run f (p + 1) r
    else if c = 35 then run f (p + 1 + (r.takeWhile noFeed).length) (r.drop (r.takeWhile noFeed).length)
    else match one (c :: r) with
      | none => .bad p
      | some (k, len, n) => (run f (p + len) ((c :: r).drop len)).pre [⟨k, p, (c :: r).take len, n⟩] := rfl

/-- More fuel than enough changes nothing. -/
theorem run_fuel (f : Nat) : ∀ (g p : Nat) (l : List UInt8), l.length < f → l.length < g → run f p l = run g p l := by
  induction f with
  | zero => intro g p l h; omega
  | succ f ih =>
    intro g p l hf hg
    cases g with
    | zero => omega
    | succ g =>
      cases l with
      | nil => rfl
      | cons c r =>
        simp at hf hg
        have ht : (r.drop (r.takeWhile noFeed).length).length ≤ r.length := by simp
        rw [run_cons, run_cons]
        split
        · exact ih g _ r (by omega) (by omega)
        · split
          · exact ih g _ _ (by omega) (by omega)
          · cases h : one (c :: r) with
            | none => rfl
            | some q =>
              obtain ⟨k, len, n⟩ := q
              have hl := one_len h
              have : ((c :: r).drop len).length < f ∧ ((c :: r).drop len).length < g := by simp at hl ⊢; omega
              simp only [ih g (p + len) _ this.1 this.2]

/-- One step of the tokens from byte k of a text on. -/
theorem step_end (l : List UInt8) (f : Nat) (acc : List Tk) : (run (f + 1) l.length (l.drop l.length)).pre acc = .good (acc ++ [⟨4, l.length, [], 0⟩]) := by
  simp [run, Out.pre]

theorem drop_at (l : List UInt8) (k : Nat) (h : k < l.length) : l.drop k = l[k] :: l.drop (k + 1) := List.drop_eq_getElem_cons h

theorem step_blank (l : List UInt8) (f k : Nat) (acc : List Tk) (h : k < l.length) (hb : blank l[k] = true) : (run (f + 1) k (l.drop k)).pre acc = (run f (k + 1) (l.drop (k + 1))).pre acc := by
  rw [drop_at l k h, run_cons, if_pos hb]

/-- Where a run of bytes ends. -/
def span (p : UInt8 → Bool) (l : List UInt8) (k : Nat) : Nat := k + ((l.drop k).takeWhile p).length

theorem span_le (p : UInt8 → Bool) (l : List UInt8) (k : Nat) (h : k ≤ l.length) : span p l k ≤ l.length := by
  have : ((l.drop k).takeWhile p).length ≤ (l.drop k).length := List.Sublist.length_le (List.takeWhile_sublist _)
  rw [List.length_drop] at this
  unfold span; omega
theorem le_span (p : UInt8 → Bool) (l : List UInt8) (k : Nat) : k ≤ span p l k := by unfold span; omega
theorem span_yes (p : UInt8 → Bool) (l : List UInt8) (k : Nat) (h : k < l.length) (hp : p l[k] = true) : span p l k = span p l (k + 1) := by
  unfold span; rw [drop_at l k h, List.takeWhile_cons, if_pos hp, List.length_cons]; omega
theorem span_no (p : UInt8 → Bool) (l : List UInt8) (k : Nat) (h : k < l.length) (hp : p l[k] = false) : span p l k = k := by
  unfold span; rw [drop_at l k h, List.takeWhile_cons, if_neg (by rw [hp]; decide)]; rfl
theorem span_end (p : UInt8 → Bool) (l : List UInt8) : span p l l.length = l.length := by
  unfold span; simp

theorem step_note (l : List UInt8) (f k : Nat) (acc : List Tk) (h : k < l.length) (hb : l[k] = 35) : (run (f + 1) k (l.drop k)).pre acc = (run f (span noFeed l (k + 1)) (l.drop (span noFeed l (k + 1)))).pre acc := by
  rw [drop_at l k h, run_cons, if_neg (by rw [hb]; decide), if_pos hb]
  unfold span
  rw [List.drop_drop]

theorem step_one (l : List UInt8) (f k : Nat) (acc : List Tk) (h : k < l.length) (h1 : blank l[k] = false) (h2 : l[k] ≠ 35) {kd len n : Nat} (ho : one (l.drop k) = some (kd, len, n)) :
    (run (f + 1) k (l.drop k)).pre acc = (run f (k + len) (l.drop (k + len))).pre (acc ++ [⟨kd, k, (l.drop k).take len, n⟩]) := by
  rw [← pre_pre, ← List.drop_drop]
  congr 1
  rw [drop_at l k h] at ho ⊢
  rw [run_cons, if_neg (by rw [h1]; decide), if_neg h2, ho]

theorem step_none (l : List UInt8) (f k : Nat) (acc : List Tk) (h : k < l.length) (h1 : blank l[k] = false) (h2 : l[k] ≠ 35) (ho : one (l.drop k) = none) :
    (run (f + 1) k (l.drop k)).pre acc = .bad k := by
  rw [drop_at l k h] at ho ⊢
  rw [run_cons, if_neg (by rw [h1]; decide), if_neg h2, ho]
  rfl

end Lx
end Go.Proofs.YtkobdephobaopaaGreatDoor

namespace Go.Proofs.YtkobdephobaopaaGreatDoor
namespace Lx

def valFrom (a : Nat) (d : List UInt8) : Nat := d.foldl (fun a c => a * 10 + (c.toNat - 48)) a
theorem val_eq (d : List UInt8) : val d = valFrom 0 d := rfl
theorem valFrom_ge (d : List UInt8) : ∀ a, a ≤ valFrom a d := by
  induction d with
  | nil => intro a; exact Nat.le_refl _
  | cons c r ih => intro a; have := ih (a * 10 + (c.toNat - 48)); show a ≤ valFrom (a * 10 + (c.toNat - 48)) r; omega

theorem digit_iff (c : UInt8) : digit c = true ↔ 48 ≤ c.toNat ∧ c.toNat ≤ 57 := by
  simp [digit]; omega

theorem parseM (d : List UInt8) : ∀ a, a ≤ 18446744073709551615 → (∀ c ∈ d, digit c = true) →
    Lib.parseUintM 18446744073709551615 a d = if valFrom a d ≤ 18446744073709551615 then .ok (valFrom a d) else .range := by
  induction d with
  | nil => intro a h _; rw [if_pos (show valFrom a [] ≤ _ from h)]; rfl
  | cons c r ih =>
    intro a h hd
    have hc := (digit_iff c).1 (hd c (by simp))
    have hv : valFrom a (c :: r) = valFrom (a * 10 + (c.toNat - 48)) r := rfl
    have hg := valFrom_ge r (a * 10 + (c.toNat - 48))
    rw [Lib.parseUintM, if_pos hc, hv]
    split
    · rw [if_neg (by omega)]
    · split
      · rw [if_neg (by omega)]
      · exact ih _ (by omega) fun x hx => hd x (by simp [hx])

theorem parse_digits (d : List UInt8) (hne : d ≠ []) (hd : ∀ c ∈ d, digit c = true) :
    Lib.parseIntB 64 d = if val d < 9223372036854775808 then .ok (val d : Int) else .range := by
  cases d with
  | nil => exact absurd rfl hne
  | cons c r =>
    have hc := (digit_iff c).1 (hd c (by simp))
    have h1 : ¬ (c.toNat = 43 ∨ c.toNat = 45) := by omega
    have h2 : ¬ c.toNat = 45 := by omega
    have hp := parseM (c :: r) 0 (by omega) hd
    have e : (2 : Nat) ^ 64 - 1 = 18446744073709551615 := by decide
    have e2 : (2 : Nat) ^ (64 - 1) = 9223372036854775808 := by decide
    unfold Lib.parseIntB
    rw [val_eq]
    generalize hV : valFrom 0 (c :: r) = V at *
    simp only [if_neg h1, Lib.parseUintB, if_neg hne, e, e2, hp]
    by_cases hv : V ≤ 18446744073709551615
    · rw [if_pos hv]
      simp only [h2]
      by_cases hw : V < 9223372036854775808
      · rw [if_pos hw]
        simp
        omega
      · rw [if_neg hw]
        simp
        omega
    · rw [if_neg hv, if_neg (by omega)]

theorem val_snoc (d : List UInt8) (i : Nat) (h : i < d.length) : val (d.take (i + 1)) = val (d.take i) * 10 + (d[i].toNat - 48) := by
  unfold val
  rw [List.take_succ_eq_append_getElem h, List.foldl_append]
  rfl

theorem val_take_le (d : List UInt8) (i : Nat) : val (d.take i) ≤ val d := by
  have e : val d = valFrom (val (d.take i)) (d.drop i) := by
    unfold val valFrom
    rw [← List.foldl_append, List.take_append_drop]
  rw [e]; exact valFrom_ge _ _

theorem takeWhile_all (p : UInt8 → Bool) (l : List UInt8) : ∀ c ∈ l.takeWhile p, p c = true := by
  induction l with
  | nil => simp
  | cons c r ih =>
    intro x hx
    rw [List.takeWhile_cons] at hx
    split at hx
    · rcases List.mem_cons.1 hx with rfl | h
      · assumption
      · exact ih x h
    · simp at hx

end Lx
end Go.Proofs.YtkobdephobaopaaGreatDoor

namespace Go.Proofs.YtkobdephobaopaaGreatDoor
namespace Lx

def Out.shift (q : Nat) : Out → Out
  | .bad p => .bad (p + q)
  | .good ts => .good (ts.map fun t => { t with at' := t.at' + q })

theorem shift_pre (q : Nat) (acc : List Tk) (o : Out) : (o.pre acc).shift q = (o.shift q).pre (acc.map fun t => { t with at' := t.at' + q }) := by
  cases o <;> simp [Out.pre, Out.shift]

theorem run_shift (q : Nat) (f : Nat) : ∀ (p : Nat) (l : List UInt8), run f (p + q) l = (run f p l).shift q := by
  induction f with
  | zero => intro p l; rfl
  | succ f ih =>
    intro p l
    cases l with
    | nil => rfl
    | cons c r =>
      rw [run_cons, run_cons]
      split
      · rw [show p + q + 1 = p + 1 + q by omega]; exact ih _ _
      · split
        · rw [show p + q + 1 + (r.takeWhile noFeed).length = p + 1 + (r.takeWhile noFeed).length + q by omega]; exact ih _ _
        · cases one (c :: r) with
          | none => rfl
          | some x =>
            obtain ⟨k, len, n⟩ := x
            simp only []
            rw [shift_pre, show p + q + len = p + len + q by omega, ih]
            rfl

theorem takeWhile_stop (p : UInt8 → Bool) (r t : List UInt8) (b : UInt8) (hb : p b = false) : (r ++ b :: t).takeWhile p = r.takeWhile p := by
  induction r with
  | nil => simp [hb]
  | cons c r ih =>
    rw [List.cons_append, List.takeWhile_cons, List.takeWhile_cons, ih]

theorem head_stop (r t : List UInt8) : (r ++ 10 :: t).head? = some 61 ↔ r.head? = some 61 := by
  cases r with
  | nil => simp
  | cons c r => simp

theorem one_stop (c : UInt8) (r t : List UInt8) : one (c :: (r ++ 10 :: t)) = one (c :: r) := by
  rw [one_cons, one_cons, takeWhile_stop goes r t 10 (by decide), takeWhile_stop digit r t 10 (by decide)]
  simp only [head_stop]

theorem run_ne (f : Nat) : ∀ (p : Nat) (l : List UInt8) (ts : List Tk), run f p l = .good ts → ts ≠ [] := by
  induction f with
  | zero => intro p l ts h; cases h
  | succ f ih =>
    intro p l ts h
    cases l with
    | nil => simp [run] at h; rw [← h]; simp
    | cons c r =>
      rw [run_cons] at h
      split at h
      · exact ih _ _ _ h
      · split at h
        · exact ih _ _ _ h
        · cases ho : one (c :: r) with
          | none => rw [ho] at h; cases h
          | some x =>
            obtain ⟨k, len, n⟩ := x
            rw [ho] at h
            simp only [] at h
            cases hr : run f (p + len) ((c :: r).drop len) with
            | bad q => rw [hr] at h; cases h
            | good us => rw [hr] at h; simp [Out.pre] at h; rw [← h]; simp

/-- What follows a text and a line feed. -/
def Out.andThen (a : Out) (b : Out) : Out :=
  match a with
  | .bad q => .bad q
  | .good ts => b.pre ts.dropLast

theorem run_feed (t : List UInt8) (gt : Nat) (hgt : t.length < gt) (f : Nat) : ∀ (p g : Nat) (l : List UInt8), l.length < f → (l ++ 10 :: t).length < g →
    run g p (l ++ 10 :: t) = (run f p l).andThen (run gt (p + l.length + 1) t) := by
  induction f with
  | zero => intro p g l h; omega
  | succ f ih =>
    intro p g l hf hg
    cases g with
    | zero => omega
    | succ g =>
      cases l with
      | nil =>
        show run (g + 1) p (10 :: t) = (run (f + 1) p []).andThen _
        rw [run_cons, if_pos (by decide)]
        simp [run, Out.andThen, pre_nil]
        exact run_fuel _ _ _ _ (by simp at hg; omega) hgt
      | cons c r =>
        simp only [List.cons_append, List.length_cons, List.length_append] at hf hg
        rw [List.cons_append, run_cons, run_cons, one_stop]
        split
        · rw [ih (p + 1) g r (by omega) (by simp; omega)]
          simp only [List.length_cons]
          rw [show p + 1 + r.length + 1 = p + (r.length + 1) + 1 by omega]
        · split
          · have hk : (r.takeWhile noFeed).length ≤ r.length := List.Sublist.length_le (List.takeWhile_sublist _)
            rw [takeWhile_stop noFeed r t 10 (by decide), List.drop_append_of_le_length hk]
            rw [ih _ g _ (by simp; omega) (by simp; omega)]
            rw [show p + 1 + (r.takeWhile noFeed).length + (r.drop (r.takeWhile noFeed).length).length + 1 = p + (c :: r).length + 1 by simp; omega]
          · cases ho : one (c :: r) with
            | none => rfl
            | some x =>
              obtain ⟨k, len, n⟩ := x
              have hl := one_len ho
              simp only []
              rw [← List.cons_append, List.drop_append_of_le_length hl.2, List.take_append_of_le_length hl.2]
              simp only [List.length_cons] at hl
              rw [ih _ g _ (by simp; omega) (by simp; omega)]
              rw [show p + len + ((c :: r).drop len).length + 1 = p + (c :: r).length + 1 by simp; omega]
              cases hr : run f (p + len) ((c :: r).drop len) with
              | bad q => rfl
              | good us =>
                have hne := run_ne _ _ _ _ hr
                show Out.pre [_] (Out.pre us.dropLast _) = Out.pre ([_] ++ us).dropLast _
                rw [pre_pre]
                cases us with
                | nil => exact absurd rfl hne
                | cons u us => rfl

theorem toks_feed (a b : List UInt8) (h : (a ++ 10 :: b).length ≤ 6000) : toks (a ++ 10 :: b) = (toks a).andThen ((toks b).shift (a.length + 1)) := by
  simp only [List.length_append, List.length_cons] at h
  unfold toks
  rw [if_neg (by simp; omega), if_neg (by omega), if_neg (by omega)]
  rw [run_feed b (b.length + 1) (by omega) (a.length + 1) 0 _ a (by omega) (by omega)]
  rw [show 0 + a.length + 1 = 0 + (a.length + 1) by omega, run_shift]

/-- A word. -/
def isWord : List UInt8 → Bool
  | [] => false
  | c :: r => lower c && r.all goes && decide (r.length ≤ 11)

theorem takeWhile_full (p : UInt8 → Bool) (r : List UInt8) (h : r.all p = true) : r.takeWhile p = r := by
  induction r with
  | nil => rfl
  | cons c r ih => simp at h; rw [List.takeWhile_cons, if_pos h.1, ih (by simpa using h.2)]

theorem lower_not (c : UInt8) (h : lower c = true) : blank c = false ∧ c ≠ 35 := by
  have h1 : 97 ≤ c.toNat := by simp [lower] at h; omega
  have h2 : ∀ d : UInt8, d.toNat < 97 → c ≠ d := by intro d hd e; subst e; omega
  have a1 := h2 32 (by decide)
  have a2 := h2 9 (by decide)
  have a3 := h2 10 (by decide)
  exact ⟨by simp [blank, a1, a2, a3], h2 35 (by decide)⟩

theorem word_toks (l : List UInt8) (h : isWord l = true) : toks l = .good [⟨1, 0, l, 0⟩, ⟨4, l.length, [], 0⟩] := by
  cases l with
  | nil => cases h
  | cons c r =>
    simp only [isWord, Bool.and_eq_true, decide_eq_true_eq] at h
    obtain ⟨⟨h1, h2⟩, h3⟩ := h
    obtain ⟨n1, n2⟩ := lower_not c h1
    have ho : one (c :: r) = some (1, 1 + r.length, 0) := by
      rw [one_cons, if_pos h1, takeWhile_full goes r h2, if_pos (by omega)]
    unfold toks
    rw [if_neg (by simp; omega), List.length_cons, run_cons, if_neg (by rw [n1]; decide), if_neg n2, ho]
    simp only []
    have e1 : (c :: r).drop (1 + r.length) = [] := List.drop_of_length_le (by simp; omega)
    have e2 : (c :: r).take (1 + r.length) = c :: r := List.take_of_length_le (by simp; omega)
    rw [e1, e2]
    simp [run, Out.pre]; omega

/-- Each token is what its kind says. -/
def Fit (t : Tk) : Prop := (t.kind = 1 → isWord t.text = true) ∧ (t.kind = 4 ↔ t.text = [])

theorem take_one (c : UInt8) (r : List UInt8) (p : UInt8 → Bool) : (c :: r).take (1 + (r.takeWhile p).length) = c :: r.takeWhile p := by
  rw [Nat.add_comm, List.take_succ_cons]
  congr 1
  induction r with
  | nil => rfl
  | cons d r ih =>
    rw [List.takeWhile_cons]
    split
    · rw [List.length_cons, List.take_succ_cons, ih]
    · rfl

theorem one_fit (c : UInt8) (r : List UInt8) {k len n : Nat} (h : one (c :: r) = some (k, len, n)) : k ≠ 4 ∧ (k = 1 → isWord ((c :: r).take len) = true) := by
  rw [one_cons] at h
  by_cases c1 : lower c = true
  · rw [if_pos c1] at h
    split at h
    · rename_i h2
      simp at h
      obtain ⟨rfl, rfl, rfl⟩ := h
      refine ⟨by decide, fun _ => ?_⟩
      rw [take_one]
      simp only [isWord, c1, Bool.true_and, Bool.and_eq_true, decide_eq_true_eq]
      exact ⟨by rw [List.all_eq_true]; exact takeWhile_all goes r, by omega⟩
    · cases h
  · rw [if_neg c1] at h
    have : k = 2 ∨ k = 3 := by
      by_cases c2 : digit c = true
      · rw [if_pos c2] at h
        cases hn : num (c :: r.takeWhile digit) with
        | none => rw [hn] at h; cases h
        | some m => rw [hn] at h; simp at h; omega
      · rw [if_neg c2] at h
        split at h
        · simp at h; omega
        · split at h
          · simp at h; omega
          · cases h
    exact ⟨by omega, fun e => by omega⟩

theorem run_fit (f : Nat) : ∀ (p : Nat) (l : List UInt8) (ts : List Tk), run f p l = .good ts → ∀ t ∈ ts, Fit t := by
  induction f with
  | zero => intro p l ts h; cases h
  | succ f ih =>
    intro p l ts h
    cases l with
    | nil =>
      simp [run] at h
      subst h
      intro t ht
      simp at ht
      subst ht
      exact ⟨fun e => absurd e (by show ¬ (4 = 1); decide), ⟨fun _ => rfl, fun _ => rfl⟩⟩
    | cons c r =>
      rw [run_cons] at h
      split at h
      · exact ih _ _ _ h
      · split at h
        · exact ih _ _ _ h
        · cases ho : one (c :: r) with
          | none => rw [ho] at h; cases h
          | some x =>
            obtain ⟨k, len, n⟩ := x
            have hl := one_len ho
            have hf := one_fit c r ho
            rw [ho] at h
            simp only [] at h
            cases hr : run f (p + len) ((c :: r).drop len) with
            | bad q => rw [hr] at h; cases h
            | good us =>
              rw [hr] at h
              simp only [Out.pre, Out.good.injEq] at h
              subst h
              intro t ht
              rcases List.mem_append.1 ht with ht | ht
              · rw [List.mem_singleton] at ht
                subst ht
                refine ⟨hf.2, ⟨fun e => absurd e hf.1, fun e => ?_⟩⟩
                exfalso
                have e' : (c :: r).take len = [] := e
                have : ((c :: r).take len).length = 0 := by rw [e']; rfl
                rw [List.length_take] at this
                omega
              · exact ih _ _ _ hr t ht

theorem toks_fit (l : List UInt8) (ts : List Tk) (h : toks l = .good ts) : ∀ t ∈ ts, Fit t := by
  unfold toks at h
  split at h
  · cases h
  · exact run_fit _ _ _ _ h

end Lx
end Go.Proofs.YtkobdephobaopaaGreatDoor

namespace Go.Proofs.YtkobdephobaopaaGreatDoor
namespace Lx

/-- Is one in a note behind a byte? -/
def noted (note : Bool) (c : UInt8) : Bool := noFeed c && (note || c == 35)

/-- What is between tokens, byte by byte: whether one is in a note at its end; none: there is something else. -/
def gap : Bool → List UInt8 → Option Bool
  | note, [] => some note
  | note, c :: r => if noted note c || blank c then gap (noted note c) r else none

/-- Tokens stand where they say, and between them there is nothing else. -/
inductive Cov : Nat → List UInt8 → List Tk → Prop
  | done {p : Nat} {l : List UInt8} {b : Bool} (h : gap false l = some b) : Cov p l [⟨4, p + l.length, [], 0⟩]
  | next {p : Nat} {g x r : List UInt8} {k n : Nat} {ts : List Tk} (h : gap false g = some false) (hk : k ≠ 4) (hx : x ≠ []) (hr : Cov (p + g.length + x.length) r ts) : Cov p (g ++ x ++ r) (⟨k, p + g.length, x, n⟩ :: ts)

theorem Cov.more {p q : Nat} {a l : List UInt8} {ts : List Tk} (h : Cov q l ts) (hq : q = p + a.length) (ha : ∀ g, gap false (a ++ g) = gap false g) : Cov p (a ++ l) ts := by
  subst hq
  cases h with
  | done h =>
    have := Cov.done (p := p) (l := a ++ l) ((ha l).trans h)
    rw [List.length_append, ← Nat.add_assoc] at this
    exact this
  | @next _ g x r k n ts h hk hx hr =>
    have := Cov.next (p := p) (g := a ++ g) (x := x) (r := r) (k := k) (n := n) (ts := ts) ((ha g).trans h) hk hx (by rw [List.length_append, ← Nat.add_assoc]; exact hr)
    rw [List.length_append, ← Nat.add_assoc] at this
    rw [← List.append_assoc, ← List.append_assoc]
    exact this

theorem gap_note (a g : List UInt8) (h : ∀ c ∈ a, noFeed c = true) : gap true (a ++ g) = gap true g := by
  induction a with
  | nil => rfl
  | cons c a ih =>
    have h1 := h c (by simp)
    have : noted true c = true := by simp [noted, h1]
    show (if noted true c || blank c then gap (noted true c) (a ++ g) else none) = _
    rw [this]
    simp only [Bool.true_or, if_true]
    exact ih fun x hx => h x (by simp [hx])

theorem drop_stop (p : UInt8 → Bool) (r : List UInt8) : r.drop (r.takeWhile p).length = [] ∨ ∃ b t, r.drop (r.takeWhile p).length = b :: t ∧ p b = false := by
  induction r with
  | nil => exact .inl rfl
  | cons c r ih =>
    rw [List.takeWhile_cons]
    split
    · rw [List.length_cons, List.drop_succ_cons]; exact ih
    · rename_i hn; exact .inr ⟨c, r, rfl, by simpa using hn⟩

theorem tw_drop (p : UInt8 → Bool) (r : List UInt8) : r.takeWhile p ++ r.drop (r.takeWhile p).length = r := by
  induction r with
  | nil => rfl
  | cons c r ih =>
    rw [List.takeWhile_cons]
    split
    · rw [List.length_cons, List.drop_succ_cons, List.cons_append, ih]
    · rfl

theorem run_cov (f : Nat) : ∀ (p : Nat) (l : List UInt8) (ts : List Tk), run f p l = .good ts → Cov p l ts := by
  induction f using Nat.strongRecOn with
  | _ f ih =>
  intro p l ts h
  cases f with
  | zero => cases h
  | succ f =>
    cases l with
    | nil =>
      simp [run] at h
      subst h
      exact Cov.done (p := p) (l := []) (b := false) rfl
    | cons c r =>
      rw [run_cons] at h
      by_cases hb : blank c = true
      · rw [if_pos hb] at h
        have := ih f (by omega) _ _ _ h
        refine Cov.more (a := [c]) this rfl fun g => ?_
        have hn : noted false c = false := by
          simp only [noted, Bool.false_or]
          by_cases e : c = 35
          · subst e; exact absurd hb (by decide)
          · simp [e]
        show (if noted false c || blank c then gap (noted false c) g else none) = _
        rw [hn, hb]; rfl
      · rw [if_neg hb] at h
        by_cases hc : c = 35
        · rw [if_pos hc] at h
          subst hc
          have ht := takeWhile_all noFeed r
          have hw := tw_drop noFeed r
          rcases drop_stop noFeed r with hd | ⟨b, t, hd, hp⟩
          · rw [hd] at h hw
            cases f with
            | zero => cases h
            | succ f =>
              simp [run] at h
              subst h
              have hg : gap false (35 :: r) = some true := by
                show gap true r = some true
                rw [← hw, gap_note _ _ ht]; rfl
              have := Cov.done (p := p) hg
              rw [List.append_nil] at hw
              have e : p + 1 + (r.takeWhile noFeed).length = p + (35 :: r).length := by rw [hw]; simp; omega
              rw [e]; exact this
          · rw [hd] at h
            have hb10 : b = 10 := by simpa [noFeed] using hp
            subst hb10
            cases f with
            | zero => cases h
            | succ f =>
              rw [run_cons, if_pos (by decide)] at h
              have := ih f (by omega) _ _ _ h
              have e : (35 :: r) = (35 :: (r.takeWhile noFeed ++ [10])) ++ t := by
                rw [List.cons_append, List.append_assoc, List.singleton_append, ← hd, hw]
              rw [e]
              refine Cov.more this (by simp; omega) fun g => ?_
              show gap true ((r.takeWhile noFeed ++ [10]) ++ g) = _
              rw [List.append_assoc, gap_note _ _ ht]
              rfl
        · rw [if_neg hc] at h
          cases ho : one (c :: r) with
          | none => rw [ho] at h; cases h
          | some x =>
            obtain ⟨k, len, n⟩ := x
            have hl := one_len ho
            have hf := one_fit c r ho
            rw [ho] at h
            simp only [] at h
            cases hr : run f (p + len) ((c :: r).drop len) with
            | bad q => rw [hr] at h; cases h
            | good us =>
              rw [hr] at h
              simp only [Out.pre, Out.good.injEq] at h
              subst h
              have h1 := ih f (by omega) _ _ _ hr
              have hlen : ((c :: r).take len).length = len := by rw [List.length_take]; omega
              have := Cov.next (p := p) (g := []) (x := (c :: r).take len) (r := (c :: r).drop len) (k := k) (n := n) (ts := us) rfl hf.1 (by intro e; rw [e] at hlen; simp at hlen; omega) (by rw [hlen]; exact h1)
              rw [List.nil_append, List.take_append_drop] at this
              exact this

theorem toks_cov (l : List UInt8) (ts : List Tk) (h : toks l = .good ts) : Cov 0 l ts := by
  unfold toks at h
  split at h
  · cases h
  · exact run_cov _ _ _ _ h

/-- Tokens without their places. -/
abbrev Core := Nat × List UInt8 × Nat
def Tk.core (t : Tk) : Core := (t.kind, t.text, t.n)
def Out.core : Out → Option (List Core)
  | .bad _ => none
  | .good ts => some (ts.map Tk.core)

theorem core_shift (q : Nat) (o : Out) : (o.shift q).core = o.core := by
  cases o with
  | bad p => rfl
  | good ts => simp [Out.shift, Out.core, Tk.core]

/-- The tokens of what is left, without places. -/
def cr (l : List UInt8) : Option (List Core) := (run (l.length + 1) 0 l).core

theorem cr_of (f p : Nat) (l : List UInt8) (h : l.length < f) : (run f p l).core = cr l := by
  unfold cr
  rw [run_fuel f (l.length + 1) p l h (by omega), show p = 0 + p by omega, run_shift, core_shift]

theorem cr_nil : cr [] = some [(4, [], 0)] := rfl
theorem cr_blank (c : UInt8) (r : List UInt8) (h : blank c = true) : cr (c :: r) = cr r := by
  rw [cr, run_cons, if_pos h]; exact cr_of _ _ _ (by simp)
theorem cr_note (r : List UInt8) : cr (35 :: r) = cr (r.drop (r.takeWhile noFeed).length) := by
  rw [cr, run_cons, if_neg (by decide), if_pos rfl]; exact cr_of _ _ _ (by simp; omega)
theorem cr_one (c : UInt8) (r : List UInt8) (h1 : blank c = false) (h2 : c ≠ 35) {k len n : Nat} (h : one (c :: r) = some (k, len, n)) : cr (c :: r) = (cr ((c :: r).drop len)).map fun ts => (k, (c :: r).take len, n) :: ts := by
  have hl := one_len h
  rw [cr, run_cons, if_neg (by rw [h1]; decide), if_neg h2, h]
  simp only []
  rw [← cr_of (c :: r).length (0 + len) ((c :: r).drop len) (by simp at hl ⊢; omega)]
  cases run (c :: r).length (0 + len) ((c :: r).drop len) <;> rfl

end Lx
end Go.Proofs.YtkobdephobaopaaGreatDoor
