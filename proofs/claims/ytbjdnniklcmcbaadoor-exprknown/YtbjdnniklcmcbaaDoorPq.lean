/- What Print tells, said plainly; an end of the tokens is never read over. No program, no condition. -/
import Derived.Test.YtbjdnniklcmcbaaDoorPw
namespace Go.Proofs.YtbjdnniklcmcbaaDoor
namespace Px
open Lx (Core)

/-- An end stays. -/
def Ends (part : P) : Prop := ∀ l x m, part l = (some x, m) → ∀ t ∈ l, t.1 = 4 → t ∈ m
theorem tail_end {l : List Core} (h : (hd l).1 ≠ 4) {t : Core} (ht : t ∈ l) (h4 : t.1 = 4) : t ∈ l.tail := by
  have e := hd_tail h
  rw [e] at ht
  rcases List.mem_cons.1 ht with rfl | ht
  · exact absurd h4 h
  · exact ht
theorem more_ends {of : Nat} {part : P} (h : Ends part) : ∀ f e l x m, more of part f e l = (some x, m) → ∀ t ∈ l, t.1 = 4 → t ∈ m := by
  intro f
  induction f with
  | zero => intro e l x m he t ht h4; rw [more] at he; simp at he; rw [← he.2]; exact ht
  | succ f ih =>
    intro e l x m he t ht h4
    rw [more] at he
    cases hk : opAt of (hd l) with
    | none => rw [hk] at he; simp at he; rw [← he.2]; exact ht
    | some k =>
      rw [hk] at he
      simp only [] at he
      have ht2 := tail_end (by rw [opAt_hd hk]; decide) ht h4
      cases hp : part l.tail with
      | mk o m1 =>
        rw [hp] at he
        cases o with
        | none => simp at he
        | some r => exact ih _ _ _ _ he t (h _ _ _ hp t ht2 h4) h4
theorem row_ends {of : Nat} {part : P} (h : Ends part) : Ends (row of part) := by
  intro l x m he t ht h4
  unfold row at he
  cases hp : part l with
  | mk o m1 =>
    rw [hp] at he
    cases o with
    | none => simp at he
    | some e => exact more_ends h _ _ _ _ _ he t (h _ _ _ hp t ht h4) h4
theorem expr_ends {f : P} (h : Ends f) : Ends (expr f) := by
  have hs : Ends (sum f) := row_ends (row_ends h)
  intro l x m he t ht h4
  unfold expr at he
  cases hp : sum f l with
  | mk o m1 =>
    rw [hp] at he
    cases o with
    | none => simp at he
    | some e =>
      simp only [] at he
      have h1 := hs _ _ _ hp t ht h4
      cases hk : opAt 1 (hd m1) with
      | none => rw [hk] at he; simp at he; rw [← he.2]; exact h1
      | some k =>
        rw [hk] at he
        simp only [] at he
        have h2 := tail_end (by rw [opAt_hd hk]; decide) h1 h4
        cases hq : sum f m1.tail with
        | mk o m2 =>
          rw [hq] at he
          cases o with
          | none => simp at he
          | some r => simp at he; rw [← he.2]; exact hs _ _ _ hq t h2 h4
theorem minus_ends {f : P} (h : Ends f) : Ends (minus f) := by
  intro l x m he t ht h4
  unfold minus at he
  cases hp : f l with
  | mk o m1 =>
    rw [hp] at he
    cases o with
    | none => simp at he
    | some e => simp at he; rw [← he.2]; exact h _ _ _ hp t ht h4
theorem paren_ends {f : P} (h : Ends f) : Ends (paren f) := by
  intro l x m he t ht h4
  unfold paren at he
  cases hp : expr f l with
  | mk o m1 =>
    rw [hp] at he
    cases o with
    | none => simp at he
    | some e =>
      simp only [] at he
      have h1 := expr_ends h _ _ _ hp t ht h4
      split at he
      · rename_i hc
        simp at he; rw [← he.2]
        exact tail_end (by rw [isSg_hd hc]; decide) h1 h4
      · simp at he
theorem fac_ends : ∀ d, Ends (fac d) := by
  intro d
  induction d with
  | zero =>
    intro l x m he t ht h4
    rw [fac_zero] at he
    split at he
    · rename_i h2; simp at he; rw [← he.2]; exact tail_end (by rw [h2]; decide) ht h4
    · split at he
      · rename_i h1; simp at he; rw [← he.2]; exact tail_end (by rw [h1.1]; decide) ht h4
      · simp at he
  | succ d ih =>
    intro l x m he t ht h4
    rw [fac_succ] at he
    split at he
    · rename_i h2; simp at he; rw [← he.2]; exact tail_end (by rw [h2]; decide) ht h4
    · split at he
      · rename_i h1; simp at he; rw [← he.2]; exact tail_end (by rw [h1.1]; decide) ht h4
      · split at he
        · rename_i h3; exact minus_ends ih _ _ _ he t (tail_end (by rw [isSg_hd h3]; decide) ht h4) h4
        · split at he
          · rename_i h5; exact paren_ends ih _ _ _ he t (tail_end (by rw [isSg_hd h5]; decide) ht h4) h4
          · simp at he

/-- How a list of tokens is read, from its first one on. -/
abbrev read (l : List Core) : Option Ex × List Core := expr (fac 8) l
theorem read_suf (l : List Core) : (read l).2 <:+ l := expr_suf (fac_suf 8) l

/-- The end of the tokens of a text. -/
theorem run_end (f : Nat) : ∀ (p : Nat) (l : List UInt8) (ts : List Lx.Tk), Lx.run f p l = .good ts → ∃ t ∈ ts, t.kind = 4 := by
  induction f with
  | zero => intro p l ts h; cases h
  | succ f ih =>
    intro p l ts h
    cases l with
    | nil => simp [Lx.run] at h; rw [← h]; exact ⟨_, List.mem_cons_self .., rfl⟩
    | cons c r =>
      rw [Lx.run_cons] at h
      split at h
      · exact ih _ _ _ h
      · split at h
        · exact ih _ _ _ h
        · cases ho : Lx.one (c :: r) with
          | none => rw [ho] at h; cases h
          | some x =>
            obtain ⟨k, len, n⟩ := x
            rw [ho] at h
            simp only [] at h
            cases hr : Lx.run f (p + len) ((c :: r).drop len) with
            | bad q => rw [hr] at h; cases h
            | good us =>
              rw [hr] at h
              simp only [Lx.Out.pre, Lx.Out.good.injEq] at h
              obtain ⟨t, ht, hk⟩ := ih _ _ _ hr
              exact ⟨t, by rw [← h]; exact List.mem_append_right _ ht, hk⟩
theorem toks_end {l : List UInt8} {ts : List Lx.Tk} (h : Lx.toks l = .good ts) : ∃ t ∈ ts, t.kind = 4 := by
  unfold Lx.toks at h
  split at h
  · cases h
  · exact run_end _ _ _ _ h
theorem read_left {l : List UInt8} {ts : List Lx.Tk} (h : Lx.toks l = .good ts) {x : Ex} {m : List Core} (hr : read (ts.map Lx.Tk.core) = (some x, m)) : m ≠ [] := by
  obtain ⟨t, ht, hk⟩ := toks_end h
  have := expr_ends (fac_ends 8) _ _ _ hr t.core (List.mem_map_of_mem ht) hk
  intro e; rw [e] at this; cases this

theorem toks_ne (l : List UInt8) (ts : List Lx.Tk) (h : Lx.toks l = .good ts) : ts ≠ [] := by
  unfold Lx.toks at h
  split at h
  · cases h
  · exact Lx.run_ne _ _ _ _ h
theorem toks_len (l : List UInt8) (ts : List Lx.Tk) (h : Lx.toks l = .good ts) : l.length ≤ 6000 := by
  unfold Lx.toks at h
  split at h
  · cases h
  · omega
theorem run_count (f : Nat) : ∀ (p : Nat) (l : List UInt8) (ts : List Lx.Tk), Lx.run f p l = .good ts → ts.length ≤ l.length + 1 := by
  induction f with
  | zero => intro p l ts h; cases h
  | succ f ih =>
    intro p l ts h
    cases l with
    | nil => simp [Lx.run] at h; subst h; simp
    | cons c r =>
      rw [Lx.run_cons] at h
      split at h
      · have := ih _ _ _ h; simp; omega
      · split at h
        · have := ih _ _ _ h
          rw [List.length_drop] at this
          simp; omega
        · cases ho : Lx.one (c :: r) with
          | none => rw [ho] at h; cases h
          | some x =>
            obtain ⟨k, len, n⟩ := x
            have hl := Lx.one_len ho
            rw [ho] at h
            simp only [] at h
            cases hr : Lx.run f (p + len) ((c :: r).drop len) with
            | bad q => rw [hr] at h; cases h
            | good us =>
              rw [hr] at h
              simp only [Lx.Out.pre, Lx.Out.good.injEq] at h
              subst h
              have := ih _ _ _ hr
              rw [List.length_drop] at this
              simp only [List.length_append, List.length_singleton]
              omega
theorem toks_count (l : List UInt8) (ts : List Lx.Tk) (h : Lx.toks l = .good ts) : ts.length ≤ 6001 := by
  unfold Lx.toks at h
  split at h
  · cases h
  · have := run_count _ _ _ _ h; omega

/-- The text of an expression; none if that is not read as it again. -/
def print (x : Ex) : List UInt8 :=
  match Lx.toks (wr x [] 1) with
  | .bad _ => []
  | .good ts => match read (ts.map Lx.Tk.core) with
    | (none, _) => []
    | (some y, m) => if (hd m).1 = 4 ∧ y.same x = true then wr x [] 1 else []
theorem print_bad {x : Ex} {q : Nat} (h : Lx.toks (wr x [] 1) = .bad q) : print x = [] := by unfold print; rw [h]
theorem print_no {x : Ex} {ts : List Lx.Tk} {m : List Core} (h : Lx.toks (wr x [] 1) = .good ts) (hr : read (ts.map Lx.Tk.core) = (none, m)) : print x = [] := by unfold print; rw [h]; simp only [hr]
theorem print_if {x y : Ex} {ts : List Lx.Tk} {m : List Core} (h : Lx.toks (wr x [] 1) = .good ts) (hr : read (ts.map Lx.Tk.core) = (some y, m)) : print x = if (hd m).1 = 4 ∧ y.same x = true then wr x [] 1 else [] := by unfold print; rw [h]; simp only [hr]
/-- What was printed is read as it again. -/
theorem print_some {x : Ex} (h : print x ≠ []) : print x = wr x [] 1 ∧ ∃ ts y m, Lx.toks (wr x [] 1) = .good ts ∧ read (ts.map Lx.Tk.core) = (some y, m) ∧ (hd m).1 = 4 ∧ y.same x = true := by
  cases ht : Lx.toks (wr x [] 1) with
  | bad q => exact absurd (print_bad ht) h
  | good ts =>
    cases hr : read (ts.map Lx.Tk.core) with
    | mk o m =>
      cases o with
      | none => exact absurd (print_no ht hr) h
      | some y =>
        have e := print_if ht hr
        by_cases hc : (hd m).1 = 4 ∧ y.same x = true
        · rw [if_pos hc] at e
          exact ⟨e, ts, y, m, rfl, hr, hc.1, hc.2⟩
        · rw [if_neg hc] at e
          exact absurd e h
end Px
#print axioms Px.print_some
end Go.Proofs.YtbjdnniklcmcbaaDoor
