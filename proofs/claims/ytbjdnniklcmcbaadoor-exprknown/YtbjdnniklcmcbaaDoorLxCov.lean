/- What stands between tokens, and tokens of texts with blanks and notes between: said plainly. No program, no condition. -/
import Derived.Test.YtbjdnniklcmcbaaDoorLxLaws
namespace Go.Proofs.YtbjdnniklcmcbaaDoor
namespace Lx

/-- Is one in a note behind a byte? -/
def noted (note : Bool) (c : UInt8) : Bool := noFeed c && (note || c == 35)

/-- What is between tokens, byte by byte: whether one is in a note at its end; none: there is something else. -/
def gap : Bool → List UInt8 → Option Bool
  | note, [] => some note
  | note, c :: r => if noted note c || blank c then gap (noted note c) r else none

/-- Tokens stand where they say, and between them there is nothing else. -/
inductive Cov : Nat → List UInt8 → List Tk → Prop
  | done {p : Nat} {l : List UInt8} {b : Bool} (h : gap false l = some b) : Cov p l [⟨4, p + l.length, [], 0⟩]
  | next {p : Nat} {g x r : List UInt8} {k n : Nat} {ts : List Tk} (h : gap false g = some false) (hk : k ≠ 4) (hx : x ≠ []) (hr : Cov (p + g.length + x.length) r ts) : Cov p (g ++ x ++ r) (⟨k, p + g.length, x, n⟩ :: ts)

theorem Cov.more {p q : Nat} {a l : List UInt8} {ts : List Tk} (h : Cov q l ts) (hq : q = p + a.length) (ha : ∀ g, gap false (a ++ g) = gap false g) : Cov p (a ++ l) ts := by
  subst hq
  cases h with
  | done h =>
    have := Cov.done (p := p) (l := a ++ l) ((ha l).trans h)
    rw [List.length_append, ← Nat.add_assoc] at this
    exact this
  | @next _ g x r k n ts h hk hx hr =>
    have := Cov.next (p := p) (g := a ++ g) (x := x) (r := r) (k := k) (n := n) (ts := ts) ((ha g).trans h) hk hx (by rw [List.length_append, ← Nat.add_assoc]; exact hr)
    rw [List.length_append, ← Nat.add_assoc] at this
    rw [← List.append_assoc, ← List.append_assoc]
    exact this

theorem gap_note (a g : List UInt8) (h : ∀ c ∈ a, noFeed c = true) : gap true (a ++ g) = gap true g := by
  induction a with
  | nil => rfl
  | cons c a ih =>
    have h1 := h c (by simp)
    have : noted true c = true := by simp [noted, h1]
    show (if noted true c || blank c then gap (noted true c) (a ++ g) else none) = _
    rw [this]
    simp only [Bool.true_or, if_true]
    exact ih fun x hx => h x (by simp [hx])

theorem drop_stop (p : UInt8 → Bool) (r : List UInt8) : r.drop (r.takeWhile p).length = [] ∨ ∃ b t, r.drop (r.takeWhile p).length = b :: t ∧ p b = false := by
  induction r with
  | nil => exact .inl rfl
  | cons c r ih =>
    rw [List.takeWhile_cons]
    split
    · rw [List.length_cons, List.drop_succ_cons]; exact ih
    · rename_i hn; exact .inr ⟨c, r, rfl, by simpa using hn⟩

theorem tw_drop (p : UInt8 → Bool) (r : List UInt8) : r.takeWhile p ++ r.drop (r.takeWhile p).length = r := by
  induction r with
  | nil => rfl
  | cons c r ih =>
    rw [List.takeWhile_cons]
    split
    · rw [List.length_cons, List.drop_succ_cons, List.cons_append, ih]
    · rfl

theorem run_cov (f : Nat) : ∀ (p : Nat) (l : List UInt8) (ts : List Tk), run f p l = .good ts → Cov p l ts := by
  induction f using Nat.strongRecOn with
  | _ f ih =>
  intro p l ts h
  cases f with
  | zero => cases h
  | succ f =>
    cases l with
    | nil =>
      simp [run] at h
      subst h
      exact Cov.done (p := p) (l := []) (b := false) rfl
    | cons c r =>
      rw [run_cons] at h
      by_cases hb : blank c = true
      · rw [if_pos hb] at h
        have := ih f (by omega) _ _ _ h
        refine Cov.more (a := [c]) this rfl fun g => ?_
        have hn : noted false c = false := by
          simp only [noted, Bool.false_or]
          by_cases e : c = 35
          · subst e; exact absurd hb (by decide)
          · simp [e]
        show (if noted false c || blank c then gap (noted false c) g else none) = _
        rw [hn, hb]; rfl
      · rw [if_neg hb] at h
        by_cases hc : c = 35
        · rw [if_pos hc] at h
          subst hc
          have ht := takeWhile_all noFeed r
          have hw := tw_drop noFeed r
          rcases drop_stop noFeed r with hd | ⟨b, t, hd, hp⟩
          · rw [hd] at h hw
            cases f with
            | zero => cases h
            | succ f =>
              simp [run] at h
              subst h
              have hg : gap false (35 :: r) = some true := by
                show gap true r = some true
                rw [← hw, gap_note _ _ ht]; rfl
              have := Cov.done (p := p) hg
              rw [List.append_nil] at hw
              have e : p + 1 + (r.takeWhile noFeed).length = p + (35 :: r).length := by rw [hw]; simp; omega
              rw [e]; exact this
          · rw [hd] at h
            have hb10 : b = 10 := by simpa [noFeed] using hp
            subst hb10
            cases f with
            | zero => cases h
            | succ f =>
              rw [run_cons, if_pos (by decide)] at h
              have := ih f (by omega) _ _ _ h
              have e : (35 :: r) = (35 :: (r.takeWhile noFeed ++ [10])) ++ t := by
                rw [List.cons_append, List.append_assoc, List.singleton_append, ← hd, hw]
              rw [e]
              refine Cov.more this (by simp; omega) fun g => ?_
              show gap true ((r.takeWhile noFeed ++ [10]) ++ g) = _
              rw [List.append_assoc, gap_note _ _ ht]
              rfl
        · rw [if_neg hc] at h
          cases ho : one (c :: r) with
          | none => rw [ho] at h; cases h
          | some x =>
            obtain ⟨k, len, n⟩ := x
            have hl := one_len ho
            have hf := one_fit c r ho
            rw [ho] at h
            simp only [] at h
            cases hr : run f (p + len) ((c :: r).drop len) with
            | bad q => rw [hr] at h; cases h
            | good us =>
              rw [hr] at h
              simp only [Out.pre, Out.good.injEq] at h
              subst h
              have h1 := ih f (by omega) _ _ _ hr
              have hlen : ((c :: r).take len).length = len := by rw [List.length_take]; omega
              have := Cov.next (p := p) (g := []) (x := (c :: r).take len) (r := (c :: r).drop len) (k := k) (n := n) (ts := us) rfl hf.1 (by intro e; rw [e] at hlen; simp at hlen; omega) (by rw [hlen]; exact h1)
              rw [List.nil_append, List.take_append_drop] at this
              exact this

theorem toks_cov (l : List UInt8) (ts : List Tk) (h : toks l = .good ts) : Cov 0 l ts := by
  unfold toks at h
  split at h
  · cases h
  · exact run_cov _ _ _ _ h

/-- Tokens without their places. -/
abbrev Core := Nat × List UInt8 × Nat
def Tk.core (t : Tk) : Core := (t.kind, t.text, t.n)
def Out.core : Out → Option (List Core)
  | .bad _ => none
  | .good ts => some (ts.map Tk.core)

theorem core_shift (q : Nat) (o : Out) : (o.shift q).core = o.core := by
  cases o with
  | bad p => rfl
  | good ts => simp [Out.shift, Out.core, Tk.core]

/-- The tokens of what is left, without places. -/
def cr (l : List UInt8) : Option (List Core) := (run (l.length + 1) 0 l).core

theorem cr_of (f p : Nat) (l : List UInt8) (h : l.length < f) : (run f p l).core = cr l := by
  unfold cr
  rw [run_fuel f (l.length + 1) p l h (by omega), show p = 0 + p by omega, run_shift, core_shift]

theorem cr_nil : cr [] = some [(4, [], 0)] := rfl
theorem cr_blank (c : UInt8) (r : List UInt8) (h : blank c = true) : cr (c :: r) = cr r := by
  rw [cr, run_cons, if_pos h]; exact cr_of _ _ _ (by simp)
theorem cr_note (r : List UInt8) : cr (35 :: r) = cr (r.drop (r.takeWhile noFeed).length) := by
  rw [cr, run_cons, if_neg (by decide), if_pos rfl]; exact cr_of _ _ _ (by simp; omega)
theorem cr_one (c : UInt8) (r : List UInt8) (h1 : blank c = false) (h2 : c ≠ 35) {k len n : Nat} (h : one (c :: r) = some (k, len, n)) : cr (c :: r) = (cr ((c :: r).drop len)).map fun ts => (k, (c :: r).take len, n) :: ts := by
  have hl := one_len h
  rw [cr, run_cons, if_neg (by rw [h1]; decide), if_neg h2, h]
  simp only []
  rw [← cr_of (c :: r).length (0 + len) ((c :: r).drop len) (by simp at hl ⊢; omega)]
  cases run (c :: r).length (0 + len) ((c :: r).drop len) <;> rfl

end Lx
end Go.Proofs.YtbjdnniklcmcbaaDoor
