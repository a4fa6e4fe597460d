/- LxA -/
import Derived.Lib.ParseIntBTie
import Derived.Lib.ParseIntB

namespace Go.Proofs.Ytnfkjmafhaecgaa
namespace Lx
def lower (c : UInt8) : Bool := decide (97 ≤ (c.toNat : Int)) && decide ((c.toNat : Int) ≤ 122)
def digit (c : UInt8) : Bool := decide (48 ≤ (c.toNat : Int)) && decide ((c.toNat : Int) ≤ 57)
def goes (c : UInt8) : Bool := lower c || digit c
def blank (c : UInt8) : Bool := c == 32 || c == 9 || c == 10
def noFeed (c : UInt8) : Bool := c != 10
/-- The signs of one byte. -/
def signs : List UInt8 := [61, 60, 43, 45, 42, 47, 37, 40, 41, 123, 125]
/-- What digits say. -/
def val (d : List UInt8) : Nat := d.foldl (fun a c => a * 10 + (c.toNat - 48)) 0
/-- The number that digits say, if they may say it. -/
def num (d : List UInt8) : Option Nat :=
  if 1 < d.length ∧ d.head? = some 48 then none else if val d < 9223372036854775808 then some (val d) else none
/-- The token at the head of what is left: kind, length, number. -/
def one : List UInt8 → Option (Nat × Nat × Nat)
  | [] => none
  | c :: r =>
    if lower c then (if 1 + (r.takeWhile goes).length ≤ 12 then some (1, 1 + (r.takeWhile goes).length, 0) else none)
    else if digit c then (num (c :: r.takeWhile digit)).map fun n => (2, 1 + (r.takeWhile digit).length, n)
    else if c = 61 ∧ r.head? = some 61 then some (3, 2, 0)
    else if signs.contains c then some (3, 1, 0)
    else none
theorem one_cons (c : UInt8) (r : List UInt8) : one (c :: r) =
    if lower c then (if 1 + (r.takeWhile goes).length ≤ 12 then some (1, 1 + (r.takeWhile goes).length, 0) else none)
    else if digit c then (num (c :: r.takeWhile digit)).map fun n => (2, 1 + (r.takeWhile digit).length, n)
    else if c = 61 ∧ r.head? = some 61 then some (3, 2, 0)
    else if signs.contains c then some (3, 1, 0)
    else none := rfl
structure Tk where
  kind : Nat
  at' : Nat
  text : List UInt8
  n : Nat
deriving DecidableEq
inductive Out where
  | bad (at' : Nat)
  | good (ts : List Tk)
deriving DecidableEq
def Out.pre (acc : List Tk) : Out → Out
  | .bad p => .bad p
  | .good ts => .good (acc ++ ts)
/-- The tokens of what is left, which begins at byte p. -/
def run : Nat → Nat → List UInt8 → Out
  | 0, p, _ => .bad p
  | _ + 1, p, [] => .good [⟨4, p, [], 0⟩]
  | f + 1, p, c :: r =>
    if blank c then run f (p + 1) r
    else if c = 35 then run f (p + 1 + (r.takeWhile noFeed).length) (r.drop (r.takeWhile noFeed).length)
    else match one (c :: r) with
      | none => .bad p
      | some (k, len, n) => (run f (p + len) ((c :: r).drop len)).pre [⟨k, p, (c :: r).take len, n⟩]
/-- The tokens of a text. -/
def toks (l : List UInt8) : Out := if 6000 < l.length then .bad 6000 else run (l.length + 1) 0 l
theorem pre_nil (o : Out) : o.pre [] = o := by cases o <;> simp [Out.pre]
theorem pre_pre (a b : List Tk) (o : Out) : (o.pre b).pre a = o.pre (a ++ b) := by cases o <;> simp [Out.pre]
theorem one_len {l : List UInt8} {k len n : Nat} (h : one l = some (k, len, n)) : 1 ≤ len ∧ len ≤ l.length := by
  cases l with
  | nil => simp [one] at h
  | cons c r =>
    have h1 : (r.takeWhile goes).length ≤ r.length := List.Sublist.length_le (List.takeWhile_sublist _)
    have h2 : (r.takeWhile digit).length ≤ r.length := List.Sublist.length_le (List.takeWhile_sublist _)
    rw [one_cons] at h
    by_cases c1 : lower c = true
    · rw [if_pos c1] at h
      split at h
      · simp at h; simp; omega
      · cases h
    · rw [if_neg c1] at h
      by_cases c2 : digit c = true
      · rw [if_pos c2] at h
        cases hn : num (c :: r.takeWhile digit) with
        | none => rw [hn] at h; cases h
        | some m => rw [hn] at h; simp at h; simp; omega
      · rw [if_neg c2] at h
        by_cases c3 : c = 61 ∧ r.head? = some 61
        · rw [if_pos c3] at h
          cases r with
          | nil => simp at c3
          | cons d r => simp at h; simp; omega
        · rw [if_neg c3] at h
          by_cases c4 : signs.contains c = true
          · rw [if_pos c4] at h; simp at h; simp; omega
          · rw [if_neg c4] at h; cases h
theorem run_cons (f p : Nat) (c : UInt8) (r : List UInt8) : run (f + 1) p (c :: r) =
    if blank c then run f (p + 1) r
    else if c = 35 then run f (p + 1 + (r.takeWhile noFeed).length) (r.drop (r.takeWhile noFeed).length)
    else match one (c :: r) with
      | none => .bad p
      | some (k, len, n) => (run f (p + len) ((c :: r).drop len)).pre [⟨k, p, (c :: r).take len, n⟩] := rfl
/-- More fuel than enough changes nothing. -/
theorem run_fuel (f : Nat) : ∀ (g p : Nat) (l : List UInt8), l.length < f → l.length < g → run f p l = run g p l := by
  induction f with
  | zero => intro g p l h; omega
  | succ f ih =>
    intro g p l hf hg
    cases g with
    | zero => omega
    | succ g =>
      cases l with
      | nil => rfl
      | cons c r =>
        simp at hf hg
        have ht : (r.drop (r.takeWhile noFeed).length).length ≤ r.length := by simp
        rw [run_cons, run_cons]
        split
        · exact ih g _ r (by omega) (by omega)
        · split
          · exact ih g _ _ (by omega) (by omega)
          · cases h : one (c :: r) with
            | none => rfl
            | some q =>
              obtain ⟨k, len, n⟩ := q
              have hl := one_len h
              have : ((c :: r).drop len).length < f ∧ ((c :: r).drop len).length < g := by simp at hl ⊢; omega
              simp only [ih g (p + len) _ this.1 this.2]
/-- One step of the tokens from byte k of a text on. -/
theorem step_end (l : List UInt8) (f : Nat) (acc : List Tk) : (run (f + 1) l.length (l.drop l.length)).pre acc = .good (acc ++ [⟨4, l.length, [], 0⟩]) := by
  simp [run, Out.pre]
theorem drop_at (l : List UInt8) (k : Nat) (h : k < l.length) : l.drop k = l[k] :: l.drop (k + 1) := List.drop_eq_getElem_cons h
theorem step_blank (l : List UInt8) (f k : Nat) (acc : List Tk) (h : k < l.length) (hb : blank l[k] = true) : (run (f + 1) k (l.drop k)).pre acc = (run f (k + 1) (l.drop (k + 1))).pre acc := by
  rw [drop_at l k h, run_cons, if_pos hb]
/-- Where a run of bytes ends. -/
def span (p : UInt8 → Bool) (l : List UInt8) (k : Nat) : Nat := k + ((l.drop k).takeWhile p).length
theorem span_le (p : UInt8 → Bool) (l : List UInt8) (k : Nat) (h : k ≤ l.length) : span p l k ≤ l.length := by
  have : ((l.drop k).takeWhile p).length ≤ (l.drop k).length := List.Sublist.length_le (List.takeWhile_sublist _)
  rw [List.length_drop] at this
  unfold span; omega
theorem le_span (p : UInt8 → Bool) (l : List UInt8) (k : Nat) : k ≤ span p l k := by unfold span; omega
theorem span_yes (p : UInt8 → Bool) (l : List UInt8) (k : Nat) (h : k < l.length) (hp : p l[k] = true) : span p l k = span p l (k + 1) := by
  unfold span; rw [drop_at l k h, List.takeWhile_cons, if_pos hp, List.length_cons]; omega
theorem span_no (p : UInt8 → Bool) (l : List UInt8) (k : Nat) (h : k < l.length) (hp : p l[k] = false) : span p l k = k := by
  unfold span; rw [drop_at l k h, List.takeWhile_cons, if_neg (by rw [hp]; decide)]; rfl
theorem step_note (l : List UInt8) (f k : Nat) (acc : List Tk) (h : k < l.length) (hb : l[k] = 35) : (run (f + 1) k (l.drop k)).pre acc = (run f (span noFeed l (k + 1)) (l.drop (span noFeed l (k + 1)))).pre acc := by
  rw [drop_at l k h, run_cons, if_neg (by rw [hb]; decide), if_pos hb]
  unfold span
  rw [List.drop_drop]
theorem step_one (l : List UInt8) (f k : Nat) (acc : List Tk) (h : k < l.length) (h1 : blank l[k] = false) (h2 : l[k] ≠ 35) {kd len n : Nat} (ho : one (l.drop k) = some (kd, len, n)) :
    (run (f + 1) k (l.drop k)).pre acc = (run f (k + len) (l.drop (k + len))).pre (acc ++ [⟨kd, k, (l.drop k).take len, n⟩]) := by
  rw [← pre_pre, ← List.drop_drop]
  congr 1
  rw [drop_at l k h] at ho ⊢
  rw [run_cons, if_neg (by rw [h1]; decide), if_neg h2, ho]
theorem step_none (l : List UInt8) (f k : Nat) (acc : List Tk) (h : k < l.length) (h1 : blank l[k] = false) (h2 : l[k] ≠ 35) (ho : one (l.drop k) = none) :
    (run (f + 1) k (l.drop k)).pre acc = .bad k := by
  rw [drop_at l k h] at ho ⊢
  rw [run_cons, if_neg (by rw [h1]; decide), if_neg h2, ho]
  rfl
end Lx
end Go.Proofs.Ytnfkjmafhaecgaa
namespace Go.Proofs.Ytnfkjmafhaecgaa
namespace Lx
def valFrom (a : Nat) (d : List UInt8) : Nat := d.foldl (fun a c => a * 10 + (c.toNat - 48)) a
theorem valFrom_ge (d : List UInt8) : ∀ a, a ≤ valFrom a d := by
  induction d with
  | nil => intro a; exact Nat.le_refl _
  | cons c r ih => intro a; have := ih (a * 10 + (c.toNat - 48)); show a ≤ valFrom (a * 10 + (c.toNat - 48)) r; omega
theorem digit_iff (c : UInt8) : digit c = true ↔ 48 ≤ c.toNat ∧ c.toNat ≤ 57 := by
  simp [digit]; omega
theorem val_snoc (d : List UInt8) (i : Nat) (h : i < d.length) : val (d.take (i + 1)) = val (d.take i) * 10 + (d[i].toNat - 48) := by
  unfold val
  rw [List.take_succ_eq_append_getElem h, List.foldl_append]
  rfl
theorem val_take_le (d : List UInt8) (i : Nat) : val (d.take i) ≤ val d := by
  have e : val d = valFrom (val (d.take i)) (d.drop i) := by
    unfold val valFrom
    rw [← List.foldl_append, List.take_append_drop]
  rw [e]; exact valFrom_ge _ _
theorem takeWhile_all (p : UInt8 → Bool) (l : List UInt8) : ∀ c ∈ l.takeWhile p, p c = true := by
  induction l with
  | nil => simp
  | cons c r ih =>
    intro x hx
    rw [List.takeWhile_cons] at hx
    split at hx
    · rcases List.mem_cons.1 hx with rfl | h
      · assumption
      · exact ih x h
    · simp at hx
end Lx
end Go.Proofs.Ytnfkjmafhaecgaa
namespace Go.Proofs.Ytnfkjmafhaecgaa
namespace Lx
def Out.shift (q : Nat) : Out → Out
  | .bad p => .bad (p + q)
  | .good ts => .good (ts.map fun t => { t with at' := t.at' + q })
theorem shift_pre (q : Nat) (acc : List Tk) (o : Out) : (o.pre acc).shift q = (o.shift q).pre (acc.map fun t => { t with at' := t.at' + q }) := by
  cases o <;> simp [Out.pre, Out.shift]
theorem run_shift (q : Nat) (f : Nat) : ∀ (p : Nat) (l : List UInt8), run f (p + q) l = (run f p l).shift q := by
  induction f with
  | zero => intro p l; rfl
  | succ f ih =>
    intro p l
    cases l with
    | nil => rfl
    | cons c r =>
      rw [run_cons, run_cons]
      split
      · rw [show p + q + 1 = p + 1 + q by omega]; exact ih _ _
      · split
        · rw [show p + q + 1 + (r.takeWhile noFeed).length = p + 1 + (r.takeWhile noFeed).length + q by omega]; exact ih _ _
        · cases one (c :: r) with
          | none => rfl
          | some x =>
            obtain ⟨k, len, n⟩ := x
            simp only []
            rw [shift_pre, show p + q + len = p + len + q by omega, ih]
            rfl
theorem run_ne (f : Nat) : ∀ (p : Nat) (l : List UInt8) (ts : List Tk), run f p l = .good ts → ts ≠ [] := by
  induction f with
  | zero => intro p l ts h; cases h
  | succ f ih =>
    intro p l ts h
    cases l with
    | nil => simp [run] at h; rw [← h]; simp
    | cons c r =>
      rw [run_cons] at h
      split at h
      · exact ih _ _ _ h
      · split at h
        · exact ih _ _ _ h
        · cases ho : one (c :: r) with
          | none => rw [ho] at h; cases h
          | some x =>
            obtain ⟨k, len, n⟩ := x
            rw [ho] at h
            simp only [] at h
            cases hr : run f (p + len) ((c :: r).drop len) with
            | bad q => rw [hr] at h; cases h
            | good us => rw [hr] at h; simp [Out.pre] at h; rw [← h]; simp
/-- What follows a text and a line feed. -/
def Out.andThen (a : Out) (b : Out) : Out :=
  match a with
  | .bad q => .bad q
  | .good ts => b.pre ts.dropLast
/-- A word. -/
def isWord : List UInt8 → Bool
  | [] => false
  | c :: r => lower c && r.all goes && decide (r.length ≤ 11)
theorem lower_not (c : UInt8) (h : lower c = true) : blank c = false ∧ c ≠ 35 := by
  have h1 : 97 ≤ c.toNat := by simp [lower] at h; omega
  have h2 : ∀ d : UInt8, d.toNat < 97 → c ≠ d := by intro d hd e; subst e; omega
  have a1 := h2 32 (by decide)
  have a2 := h2 9 (by decide)
  have a3 := h2 10 (by decide)
  exact ⟨by simp [blank, a1, a2, a3], h2 35 (by decide)⟩
/-- Each token is what its kind says. -/
def Fit (t : Tk) : Prop := (t.kind = 1 → isWord t.text = true) ∧ (t.kind = 4 ↔ t.text = [])
theorem take_one (c : UInt8) (r : List UInt8) (p : UInt8 → Bool) : (c :: r).take (1 + (r.takeWhile p).length) = c :: r.takeWhile p := by
  rw [Nat.add_comm, List.take_succ_cons]
  congr 1
  induction r with
  | nil => rfl
  | cons d r ih =>
    rw [List.takeWhile_cons]
    split
    · rw [List.length_cons, List.take_succ_cons, ih]
    · rfl
theorem one_fit (c : UInt8) (r : List UInt8) {k len n : Nat} (h : one (c :: r) = some (k, len, n)) : k ≠ 4 ∧ (k = 1 → isWord ((c :: r).take len) = true) := by
  rw [one_cons] at h
  by_cases c1 : lower c = true
  · rw [if_pos c1] at h
    split at h
    · rename_i h2
      simp at h
      obtain ⟨rfl, rfl, rfl⟩ := h
      refine ⟨by decide, fun _ => ?_⟩
      rw [take_one]
      simp only [isWord, c1, Bool.true_and, Bool.and_eq_true, decide_eq_true_eq]
      exact ⟨by rw [List.all_eq_true]; exact takeWhile_all goes r, by omega⟩
    · cases h
  · rw [if_neg c1] at h
    have : k = 2 ∨ k = 3 := by
      by_cases c2 : digit c = true
      · rw [if_pos c2] at h
        cases hn : num (c :: r.takeWhile digit) with
        | none => rw [hn] at h; cases h
        | some m => rw [hn] at h; simp at h; omega
      · rw [if_neg c2] at h
        split at h
        · simp at h; omega
        · split at h
          · simp at h; omega
          · cases h
    exact ⟨by omega, fun e => by omega⟩
theorem run_fit (f : Nat) : ∀ (p : Nat) (l : List UInt8) (ts : List Tk), run f p l = .good ts → ∀ t ∈ ts, Fit t := by
  induction f with
  | zero => intro p l ts h; cases h
  | succ f ih =>
    intro p l ts h
    cases l with
    | nil =>
      simp [run] at h
      subst h
      intro t ht
      simp at ht
      subst ht
      exact ⟨fun e => absurd e (by show ¬ (4 = 1); decide), ⟨fun _ => rfl, fun _ => rfl⟩⟩
    | cons c r =>
      rw [run_cons] at h
      split at h
      · exact ih _ _ _ h
      · split at h
        · exact ih _ _ _ h
        · cases ho : one (c :: r) with
          | none => rw [ho] at h; cases h
          | some x =>
            obtain ⟨k, len, n⟩ := x
            have hl := one_len ho
            have hf := one_fit c r ho
            rw [ho] at h
            simp only [] at h
            cases hr : run f (p + len) ((c :: r).drop len) with
            | bad q => rw [hr] at h; cases h
            | good us =>
              rw [hr] at h
              simp only [Out.pre, Out.good.injEq] at h
              subst h
              intro t ht
              rcases List.mem_append.1 ht with ht | ht
              · rw [List.mem_singleton] at ht
                subst ht
                refine ⟨hf.2, ⟨fun e => absurd e hf.1, fun e => ?_⟩⟩
                exfalso
                have e' : (c :: r).take len = [] := e
                have : ((c :: r).take len).length = 0 := by rw [e']; rfl
                rw [List.length_take] at this
                omega
              · exact ih _ _ _ hr t ht
theorem toks_fit (l : List UInt8) (ts : List Tk) (h : toks l = .good ts) : ∀ t ∈ ts, Fit t := by
  unfold toks at h
  split at h
  · cases h
  · exact run_fit _ _ _ _ h
end Lx
end Go.Proofs.Ytnfkjmafhaecgaa
namespace Go.Proofs.Ytnfkjmafhaecgaa
namespace Lx
/-- Is one in a note behind a byte? -/
def noted (note : Bool) (c : UInt8) : Bool := noFeed c && (note || c == 35)
/-- What is between tokens, byte by byte: whether one is in a note at its end; none: there is something else. -/
def gap : Bool → List UInt8 → Option Bool
  | note, [] => some note
  | note, c :: r => if noted note c || blank c then gap (noted note c) r else none
/-- Tokens stand where they say, and between them there is nothing else. -/
inductive Cov : Nat → List UInt8 → List Tk → Prop
  | done {p : Nat} {l : List UInt8} {b : Bool} (h : gap false l = some b) : Cov p l [⟨4, p + l.length, [], 0⟩]
  | next {p : Nat} {g x r : List UInt8} {k n : Nat} {ts : List Tk} (h : gap false g = some false) (hk : k ≠ 4) (hx : x ≠ []) (hr : Cov (p + g.length + x.length) r ts) : Cov p (g ++ x ++ r) (⟨k, p + g.length, x, n⟩ :: ts)
theorem Cov.more {p q : Nat} {a l : List UInt8} {ts : List Tk} (h : Cov q l ts) (hq : q = p + a.length) (ha : ∀ g, gap false (a ++ g) = gap false g) : Cov p (a ++ l) ts := by
  subst hq
  cases h with
  | done h =>
    have := Cov.done (p := p) (l := a ++ l) ((ha l).trans h)
    rw [List.length_append, ← Nat.add_assoc] at this
    exact this
  | @next _ g x r k n ts h hk hx hr =>
    have := Cov.next (p := p) (g := a ++ g) (x := x) (r := r) (k := k) (n := n) (ts := ts) ((ha g).trans h) hk hx (by rw [List.length_append, ← Nat.add_assoc]; exact hr)
    rw [List.length_append, ← Nat.add_assoc] at this
    rw [← List.append_assoc, ← List.append_assoc]
    exact this
/-- Tokens without their places. -/
abbrev Core := Nat × List UInt8 × Nat
def Tk.core (t : Tk) : Core := (t.kind, t.text, t.n)
def Out.core : Out → Option (List Core)
  | .bad _ => none
  | .good ts => some (ts.map Tk.core)
theorem core_shift (q : Nat) (o : Out) : (o.shift q).core = o.core := by
  cases o with
  | bad p => rfl
  | good ts => simp [Out.shift, Out.core, Tk.core]
/-- The tokens of what is left, without places. -/
def cr (l : List UInt8) : Option (List Core) := (run (l.length + 1) 0 l).core
theorem cr_of (f p : Nat) (l : List UInt8) (h : l.length < f) : (run f p l).core = cr l := by
  unfold cr
  rw [run_fuel f (l.length + 1) p l h (by omega), show p = 0 + p by omega, run_shift, core_shift]
theorem cr_nil : cr [] = some [(4, [], 0)] := rfl
theorem cr_blank (c : UInt8) (r : List UInt8) (h : blank c = true) : cr (c :: r) = cr r := by
  rw [cr, run_cons, if_pos h]; exact cr_of _ _ _ (by simp)
theorem cr_one (c : UInt8) (r : List UInt8) (h1 : blank c = false) (h2 : c ≠ 35) {k len n : Nat} (h : one (c :: r) = some (k, len, n)) : cr (c :: r) = (cr ((c :: r).drop len)).map fun ts => (k, (c :: r).take len, n) :: ts := by
  have hl := one_len h
  rw [cr, run_cons, if_neg (by rw [h1]; decide), if_neg h2, h]
  simp only []
  rw [← cr_of (c :: r).length (0 + len) ((c :: r).drop len) (by simp at hl ⊢; omega)]
  cases run (c :: r).length (0 + len) ((c :: r).drop len) <;> rfl
end Lx
end Go.Proofs.Ytnfkjmafhaecgaa
