/- How tokens are read as an expression, said plainly; what one reading tells of others. No program, no condition. How an expression is written, said plainly. No program, no condition. What Print tells, said plainly; an end of the tokens is never read over. No program, no condition. What is read is printed with no more than was read, and printed it is read the same: said plainly. No program, no condition. What is written is read the same; what was read has a text that is no longer. No program, no condition. What was read is printed and read the same; parentheses about it; from the left: said plainly. No program, no condition. -/
import Derived.Test.YtkobdephobaopaaGreatDoorLxA
import Derived.Test.YtkobdephobaopaaGreatDoorKpA
import Derived.Lib.ItoaLen

namespace Go.Proofs.YtkobdephobaopaaGreatDoor
namespace Px
open Lx (Core)

def ba (l : List UInt8) : ByteArray := ⟨l.toArray⟩
abbrev e0 : ByteArray := ⟨#[]⟩
def numE (n : Nat) : Ex := .mk 1 n e0 []
def nameE (t : List UInt8) : Ex := .mk 2 0 (ba t) []
def minusE (e : Ex) : Ex := .mk 3 0 e0 [e]
def binE (k : Nat) (a b : Ex) : Ex := .mk k 0 e0 [a, b]

def rnk (k : Int) : Nat := if k = 9 ∨ k = 10 then 1 else if k = 4 ∨ k = 5 then 2 else if k = 6 ∨ k = 7 ∨ k = 8 then 3 else 4
def sgn (k : Int) : List UInt8 := if k = 4 then [43] else if k = 5 then [45] else if k = 6 then [42] else if k = 7 then [47] else if k = 8 then [37] else if k = 9 then [60] else if k = 10 then [61, 61] else []

def kws : List (List UInt8) := [[118, 97, 114], [119, 105, 100, 101], [97, 116, 111, 109, 105, 99], [108, 111, 99, 97, 108], [109, 117, 116, 101, 120], [99, 104, 97, 110],
  [103, 111], [108, 111, 99, 107], [117, 110, 108, 111, 99, 107], [115, 101, 110, 100], [114, 101, 99, 118], [112, 114, 105, 110, 116], [105, 102], [101, 108, 115, 101], [114, 101, 112, 101, 97, 116], [103, 111, 116, 111], [108, 97, 98, 101, 108]]
def isNm (t : List UInt8) : Bool := Lx.isWord t && !(kws.any (t == ·))

/-- The operator that the token is, if it is one of that rank. -/
def opAt (of : Nat) (t : Core) : Option Nat := if t.1 = 3 then [4, 5, 6, 7, 8, 9, 10].find? (fun k => (rnk (k : Nat) == of) && (t.2.1 == sgn (k : Nat))) else none
def isSg (x : List UInt8) (t : Core) : Bool := (t.1 == 3) && (t.2.1 == x)
def hd (l : List Core) : Core := l.headD (4, [], 0)

abbrev P := List Core → Option Ex × List Core

def more (of : Nat) (part : P) : Nat → Ex → P
  | 0, e, l => (some e, l)
  | f + 1, e, l => match opAt of (hd l) with
    | none => (some e, l)
    | some k => match part l.tail with
      | (none, m) => (none, m)
      | (some r, m) => more of part f (binE k e r) m
def row (of : Nat) (part : P) : P := fun l => match part l with
  | (none, m) => (none, m)
  | (some e, m) => more of part m.length e m
def sum (f : P) : P := row 2 (row 3 f)
def expr (f : P) : P := fun l => match sum f l with
  | (none, m) => (none, m)
  | (some e, m) => match opAt 1 (hd m) with
    | none => (some e, m)
    | some k => match sum f m.tail with
      | (none, m') => (none, m')
      | (some r, m') => (some (binE k e r), m')
def minus (f : P) : P := fun l => match f l with
  | (none, m) => (none, m)
  | (some e, m) => (some (minusE e), m)
def paren (f : P) : P := fun l => match expr f l with
  | (none, m) => (none, m)
  | (some e, m) => if isSg [41] (hd m) then (some e, m.tail) else (none, m)
def fac : Nat → P
  | d, l => if (hd l).1 = 2 then (some (numE (hd l).2.2), l.tail)
    else if (hd l).1 = 1 ∧ isNm (hd l).2.1 = true then (some (nameE (hd l).2.1), l.tail)
    else match d with
    | 0 => (none, l)
    | d + 1 => if isSg [45] (hd l) then minus (fac d) l.tail else if isSg [40] (hd l) then paren (fac d) l.tail else (none, l)

theorem fac_zero (l : List Core) : fac 0 l = if (hd l).1 = 2 then (some (numE (hd l).2.2), l.tail) else if (hd l).1 = 1 ∧ isNm (hd l).2.1 = true then (some (nameE (hd l).2.1), l.tail) else (none, l) := by rw [fac]
theorem fac_succ (d : Nat) (l : List Core) : fac (d + 1) l = if (hd l).1 = 2 then (some (numE (hd l).2.2), l.tail) else if (hd l).1 = 1 ∧ isNm (hd l).2.1 = true then (some (nameE (hd l).2.1), l.tail) else
   if isSg [45] (hd l) then minus (fac d) l.tail else if isSg [40] (hd l) then paren (fac d) l.tail else (none, l) := by rw [fac]

/-! ### Where a reading ends -/
theorem hd_tail {l : List Core} (h : (hd l).1 ≠ 4) : l = hd l :: l.tail := by
  cases l with
  | nil => exact absurd rfl h
  | cons a l => rfl
theorem opAt_hd {of : Nat} {l : List Core} {k : Nat} (h : opAt of (hd l) = some k) : (hd l).1 = 3 := by
  unfold opAt at h
  split at h
  · assumption
  · cases h
theorem isSg_hd {x : List UInt8} {l : List Core} (h : isSg x (hd l) = true) : (hd l).1 = 3 := by
  simp [isSg] at h; exact h.1

/-- What is left is the end of what there was. -/
def Suf (part : P) : Prop := ∀ l, (part l).2 <:+ l
theorem suf_tail (l : List Core) : l.tail <:+ l := List.tail_suffix l
theorem more_suf {of : Nat} {part : P} (h : Suf part) : ∀ f e l, (more of part f e l).2 <:+ l := by
  intro f
  induction f with
  | zero => intro e l; exact List.suffix_refl _
  | succ f ih =>
    intro e l
    rw [more]
    cases opAt of (hd l) with
    | none => exact List.suffix_refl _
    | some k =>
      have := h l.tail
      cases hp : part l.tail with
      | mk o m =>
        rw [hp] at this
        cases o with
        | none => exact this.trans (suf_tail l)
        | some r => exact (ih _ m).trans (this.trans (suf_tail l))
theorem row_suf {of : Nat} {part : P} (h : Suf part) : Suf (row of part) := by
  intro l
  have := h l
  unfold row
  cases hp : part l with
  | mk o m =>
    rw [hp] at this
    cases o with
    | none => exact this
    | some e => exact (more_suf h _ _ _).trans this
theorem expr_suf {f : P} (h : Suf f) : Suf (expr f) := by
  have hs : Suf (sum f) := row_suf (row_suf h)
  intro l
  have h1 := hs l
  unfold expr
  cases hp : sum f l with
  | mk o m =>
    rw [hp] at h1
    cases o with
    | none => exact h1
    | some e =>
      cases hk : opAt 1 (hd m) with
      | none => simp only [hk]; exact h1
      | some k =>
        simp only [hk]
        have h2 := hs m.tail
        cases hq : sum f m.tail with
        | mk o m' =>
          rw [hq] at h2
          cases o with
          | none => exact h2.trans ((suf_tail m).trans h1)
          | some r => exact h2.trans ((suf_tail m).trans h1)
theorem minus_suf {f : P} (h : Suf f) : Suf (minus f) := by
  intro l
  have h1 := h l
  unfold minus
  cases hp : f l with
  | mk o m => rw [hp] at h1; cases o <;> exact h1
theorem paren_suf {f : P} (h : Suf f) : Suf (paren f) := by
  intro l
  have h1 := expr_suf h l
  unfold paren
  cases hp : expr f l with
  | mk o m =>
    rw [hp] at h1
    cases o with
    | none => exact h1
    | some e =>
      simp only []
      split
      · exact (suf_tail m).trans h1
      · exact h1
theorem fac_suf : ∀ d, Suf (fac d) := by
  intro d
  induction d with
  | zero =>
    intro l
    rw [fac_zero]
    split
    · exact suf_tail l
    · split
      · exact suf_tail l
      · exact List.suffix_refl _
  | succ d ih =>
    intro l
    rw [fac_succ]
    split
    · exact suf_tail l
    · split
      · exact suf_tail l
      · split
        · exact (minus_suf ih _).trans (suf_tail l)
        · split
          · exact (paren_suf ih _).trans (suf_tail l)
          · exact List.suffix_refl _

/-! ### What a reading needs: what it has read, and which operator follows -/
/-- The same operator follows, or none. -/
def View (m m' : List Core) : Prop := ∀ of, opAt of (hd m') = opAt of (hd m)
theorem View.refl (m : List Core) : View m m := fun _ => rfl
theorem View.app (p : List Core) {m m' : List Core} (h : View m m') : View (p ++ m) (p ++ m') := by
  cases p with
  | nil => exact h
  | cons a p => intro of; rfl
/-- A reading that is one has read something, and reads it wherever it stands. -/
def Ctx (part : P) : Prop := ∀ l x m, part l = (some x, m) → ∃ p, l = p ++ m ∧ p ≠ [] ∧ ∀ m', View m m' → part (p ++ m') = (some x, m')

theorem more_none {of : Nat} {part : P} {f : Nat} {e : Ex} {l : List Core} (h : opAt of (hd l) = none) : more of part f e l = (some e, l) := by
  cases f with
  | zero => rfl
  | succ f => rw [more, h]

theorem more_ctx {of : Nat} {part : P} (h : Ctx part) : ∀ f e l x m, l.length ≤ f → more of part f e l = (some x, m) →
    ∃ p, l = p ++ m ∧ ∀ m' g, (p ++ m').length ≤ g → View m m' → more of part g e (p ++ m') = (some x, m') := by
  intro f
  induction f with
  | zero =>
    intro e l x m hf he
    rw [more] at he
    cases l with
    | cons a l => simp at hf
    | nil =>
      simp at he
      obtain ⟨rfl, rfl⟩ := he
      refine ⟨[], rfl, fun m' g _ hv => ?_⟩
      exact more_none (hv of)
  | succ f ih =>
    intro e l x m hf he
    rw [more] at he
    cases hk : opAt of (hd l) with
    | none =>
      rw [hk] at he
      simp at he
      obtain ⟨rfl, rfl⟩ := he
      refine ⟨[], rfl, fun m' g _ hv => ?_⟩
      exact more_none ((hv of).trans hk)
    | some k =>
      rw [hk] at he
      have hl : l = hd l :: l.tail := hd_tail (by rw [opAt_hd hk]; decide)
      simp only [] at he
      cases hp : part l.tail with
      | mk o m1 =>
        rw [hp] at he
        cases o with
        | none => simp at he
        | some r =>
          simp only [] at he
          obtain ⟨p1, e1, n1, c1⟩ := h _ _ _ hp
          have hlen : l.length = 1 + (p1.length + m1.length) := by rw [hl, List.length_cons, e1, List.length_append]; omega
          obtain ⟨p2, e2, c2⟩ := ih _ _ _ _ (by omega) he
          refine ⟨hd l :: (p1 ++ p2), by rw [hl, e1, e2]; simp [hd], fun m' g hg hv => ?_⟩
          cases g with
          | zero => simp at hg
          | succ g =>
            have hop : opAt of (hd (hd l :: (p1 ++ p2) ++ m')) = some k := hk
            rw [more, hop]
            have ht : (hd l :: (p1 ++ p2) ++ m').tail = p1 ++ (p2 ++ m') := by simp
            simp only [ht]
            rw [c1 _ (by rw [e2]; exact View.app p2 hv)]
            simp only []
            refine c2 m' g ?_ hv
            simp only [List.cons_append, List.length_cons, List.length_append] at hg ⊢
            have := List.length_pos_iff.2 n1
            omega

theorem row_ctx {of : Nat} {part : P} (h : Ctx part) : Ctx (row of part) := by
  intro l x m he
  unfold row at he
  cases hp : part l with
  | mk o m1 =>
    rw [hp] at he
    cases o with
    | none => simp at he
    | some e =>
      simp only [] at he
      obtain ⟨p1, e1, n1, c1⟩ := h _ _ _ hp
      obtain ⟨p2, e2, c2⟩ := more_ctx h _ _ _ _ _ (Nat.le_refl _) he
      refine ⟨p1 ++ p2, by rw [e1, e2, List.append_assoc], by simp [n1], fun m' hv => ?_⟩
      unfold row
      rw [List.append_assoc, c1 _ (by rw [e2]; exact View.app p2 hv)]
      exact c2 m' _ (Nat.le_refl _) hv

theorem sum_ctx {f : P} (h : Ctx f) : Ctx (sum f) := row_ctx (row_ctx h)

theorem expr_ctx {f : P} (h : Ctx f) : Ctx (expr f) := by
  have hs := sum_ctx h
  intro l x m he
  unfold expr at he
  cases hp : sum f l with
  | mk o m1 =>
    rw [hp] at he
    cases o with
    | none => simp at he
    | some e =>
      simp only [] at he
      obtain ⟨p1, e1, n1, c1⟩ := hs _ _ _ hp
      cases hk : opAt 1 (hd m1) with
      | none =>
        rw [hk] at he
        simp at he
        obtain ⟨rfl, rfl⟩ := he
        refine ⟨p1, e1, n1, fun m' hv => ?_⟩
        unfold expr
        rw [c1 m' hv]
        simp only [(hv 1).trans hk]
      | some k =>
        rw [hk] at he
        simp only [] at he
        have hl : m1 = hd m1 :: m1.tail := hd_tail (by rw [opAt_hd hk]; decide)
        cases hq : sum f m1.tail with
        | mk o m2 =>
          rw [hq] at he
          cases o with
          | none => simp at he
          | some r =>
            simp at he
            obtain ⟨rfl, rfl⟩ := he
            obtain ⟨p2, e2, n2, c2⟩ := hs _ _ _ hq
            refine ⟨p1 ++ hd m1 :: p2, ?_, by simp, fun m' hv => ?_⟩
            · rw [e1, hl, e2]; simp [hd]
            · unfold expr
              have hv1 : View m1 (hd m1 :: p2 ++ m') := by
                intro of; rfl
              rw [List.append_assoc, c1 _ hv1]
              have : opAt 1 (hd (hd m1 :: p2 ++ m')) = some k := hk
              simp only [this]
              have : (hd m1 :: p2 ++ m').tail = p2 ++ m' := rfl
              rw [this, c2 m' hv]

theorem minus_ctx {f : P} (h : Ctx f) : Ctx (minus f) := by
  intro l x m he
  unfold minus at he
  cases hp : f l with
  | mk o m1 =>
    rw [hp] at he
    cases o with
    | none => simp at he
    | some e =>
      simp at he
      obtain ⟨rfl, rfl⟩ := he
      obtain ⟨p, e1, n1, c1⟩ := h _ _ _ hp
      exact ⟨p, e1, n1, fun m' hv => by unfold minus; rw [c1 m' hv]⟩

theorem paren_ctx {f : P} (h : Ctx f) : Ctx (paren f) := by
  intro l x m he
  unfold paren at he
  cases hp : expr f l with
  | mk o m1 =>
    rw [hp] at he
    cases o with
    | none => simp at he
    | some e =>
      simp only [] at he
      obtain ⟨p, e1, n1, c1⟩ := expr_ctx h _ _ _ hp
      split at he
      · rename_i hc
        simp at he
        obtain ⟨rfl, rfl⟩ := he
        have hl : m1 = hd m1 :: m1.tail := hd_tail (by rw [isSg_hd hc]; decide)
        refine ⟨p ++ [hd m1], by rw [e1]; conv => lhs; rw [hl]
                                 simp, by simp, fun m' hv => ?_⟩
        unfold paren
        have hv1 : View m1 (hd m1 :: m') := fun of => rfl
        rw [List.append_assoc, show [hd m1] ++ m' = hd m1 :: m' from rfl, c1 _ hv1]
        have : isSg [41] (hd (hd m1 :: m')) = true := hc
        simp only [this, if_true]
        rfl
      · simp at he

theorem one_ctx {l : List Core} (h4 : (hd l).1 ≠ 4) : l = [hd l] ++ l.tail := by
  have := hd_tail h4
  exact this

theorem fac_ctx : ∀ d, Ctx (fac d) := by
  intro d
  induction d with
  | zero =>
    intro l x m he
    rw [fac_zero] at he
    split at he
    · rename_i h2
      simp at he
      obtain ⟨rfl, rfl⟩ := he
      refine ⟨[hd l], one_ctx (by rw [h2]; decide), by simp, fun m' _ => ?_⟩
      have e : hd ([hd l] ++ m') = hd l := rfl
      rw [fac_zero, e, if_pos h2]; rfl
    · rename_i h2
      split at he
      · rename_i h1
        simp at he
        obtain ⟨rfl, rfl⟩ := he
        refine ⟨[hd l], one_ctx (by rw [h1.1]; decide), by simp, fun m' _ => ?_⟩
        have e : hd ([hd l] ++ m') = hd l := rfl
        rw [fac_zero, e, if_neg h2, if_pos h1]; rfl
      · simp at he
  | succ d ih =>
    intro l x m he
    rw [fac_succ] at he
    split at he
    · rename_i h2
      simp at he
      obtain ⟨rfl, rfl⟩ := he
      refine ⟨[hd l], one_ctx (by rw [h2]; decide), by simp, fun m' _ => ?_⟩
      have e : hd ([hd l] ++ m') = hd l := rfl
      rw [fac_succ, e, if_pos h2]; rfl
    · rename_i h2
      split at he
      · rename_i h1
        simp at he
        obtain ⟨rfl, rfl⟩ := he
        refine ⟨[hd l], one_ctx (by rw [h1.1]; decide), by simp, fun m' _ => ?_⟩
        have e : hd ([hd l] ++ m') = hd l := rfl
        rw [fac_succ, e, if_neg h2, if_pos h1]; rfl
      · rename_i h1
        split at he
        · rename_i h3
          obtain ⟨p, e1, n1, c1⟩ := minus_ctx ih _ _ _ he
          refine ⟨hd l :: p, ?_, by simp, fun m' hv => ?_⟩
          · rw [List.cons_append, ← e1]; exact hd_tail (by rw [isSg_hd h3]; decide)
          · have e : hd (hd l :: p ++ m') = hd l := rfl
            rw [fac_succ, e, if_neg h2, if_neg h1, if_pos h3]
            exact c1 m' hv
        · rename_i h3
          split at he
          · rename_i h5
            obtain ⟨p, e1, n1, c1⟩ := paren_ctx ih _ _ _ he
            refine ⟨hd l :: p, ?_, by simp, fun m' hv => ?_⟩
            · rw [List.cons_append, ← e1]; exact hd_tail (by rw [isSg_hd h5]; decide)
            · have e : hd (hd l :: p ++ m') = hd l := rfl
              rw [fac_succ, e, if_neg h2, if_neg h1, if_neg h3, if_pos h5]
              exact c1 m' hv
          · simp at he

/-! ### Deeper -/
def Le (a b : P) : Prop := ∀ l x m, a l = (some x, m) → b l = (some x, m)
theorem more_le {of : Nat} {a b : P} (h : Le a b) : ∀ f e l x m, more of a f e l = (some x, m) → more of b f e l = (some x, m) := by
  intro f
  induction f with
  | zero => intro e l x m he; exact he
  | succ f ih =>
    intro e l x m he
    rw [more] at he ⊢
    cases hk : opAt of (hd l) with
    | none => rw [hk] at he; exact he
    | some k =>
      rw [hk] at he
      simp only [] at he ⊢
      cases hp : a l.tail with
      | mk o m1 =>
        rw [hp] at he
        cases o with
        | none => simp at he
        | some r => rw [h _ _ _ hp]; exact ih _ _ _ _ he
theorem row_le {of : Nat} {a b : P} (h : Le a b) : Le (row of a) (row of b) := by
  intro l x m he
  unfold row at he ⊢
  cases hp : a l with
  | mk o m1 =>
    rw [hp] at he
    cases o with
    | none => simp at he
    | some e => rw [h _ _ _ hp]; exact more_le h _ _ _ _ _ he
theorem expr_le {a b : P} (h : Le a b) : Le (expr a) (expr b) := by
  have hs : Le (sum a) (sum b) := row_le (row_le h)
  intro l x m he
  unfold expr at he ⊢
  cases hp : sum a l with
  | mk o m1 =>
    rw [hp] at he
    cases o with
    | none => simp at he
    | some e =>
      rw [hs _ _ _ hp]
      simp only [] at he ⊢
      cases hk : opAt 1 (hd m1) with
      | none => rw [hk] at he; exact he
      | some k =>
        rw [hk] at he
        simp only [] at he ⊢
        cases hq : sum a m1.tail with
        | mk o m2 =>
          rw [hq] at he
          cases o with
          | none => simp at he
          | some r => rw [hs _ _ _ hq]; exact he
theorem minus_le {a b : P} (h : Le a b) : Le (minus a) (minus b) := by
  intro l x m he
  unfold minus at he ⊢
  cases hp : a l with
  | mk o m1 =>
    rw [hp] at he
    cases o with
    | none => simp at he
    | some e => rw [h _ _ _ hp]; exact he
theorem paren_le {a b : P} (h : Le a b) : Le (paren a) (paren b) := by
  intro l x m he
  unfold paren at he ⊢
  cases hp : expr a l with
  | mk o m1 =>
    rw [hp] at he
    cases o with
    | none => simp at he
    | some e => rw [expr_le h _ _ _ hp]; exact he
theorem fac_le : ∀ d, Le (fac d) (fac (d + 1)) := by
  intro d
  induction d with
  | zero =>
    intro l x m he
    rw [fac_zero] at he
    rw [fac_succ]
    split at he
    · rename_i h2; rw [if_pos h2]; exact he
    · rename_i h2
      split at he
      · rename_i h1; rw [if_neg h2, if_pos h1]; exact he
      · simp at he
  | succ d ih =>
    intro l x m he
    rw [fac_succ] at he
    rw [fac_succ]
    split at he
    · rename_i h2; rw [if_pos h2]; exact he
    · rename_i h2
      split at he
      · rename_i h1; rw [if_neg h2, if_pos h1]; exact he
      · rename_i h1
        rw [if_neg h2, if_neg h1]
        split at he
        · rename_i h3; rw [if_pos h3]; exact minus_le ih _ _ _ he
        · rename_i h3
          rw [if_neg h3]
          split at he
          · rename_i h5; rw [if_pos h5]; exact paren_le ih _ _ _ he
          · simp at he

/-- Parentheses about it: if it is read, it is the same. -/
theorem paren_same {d : Nat} {l : List Core} {e : Ex} {m m' : List Core} (h : expr (fac d) l = (some e, m)) (p : List Core) (hp : l = p ++ m) (hv : View m ((3, [41], 0) :: m')) {y : Ex} {n : List Core}
    (hy : fac d ((3, [40], 0) :: (p ++ (3, [41], 0) :: m')) = (some y, n)) : y = e ∧ n = m' := by
  cases d with
  | zero =>
    rw [fac_zero] at hy
    rw [if_neg (by show ¬ (3 = 2); decide), if_neg (by intro c; exact absurd c.1 (by show ¬ (3 = 1); decide))] at hy
    simp at hy
  | succ d =>
    rw [fac_succ, if_neg (by show ¬ (3 = 2); decide), if_neg (by intro c; exact absurd c.1 (by show ¬ (3 = 1); decide)), if_neg (by show ¬ (isSg [45] (3, [40], 0) = true); decide), if_pos (by show (isSg [40] (3, [40], 0) = true); decide)] at hy
    unfold paren at hy
    obtain ⟨p', e1, n1, c1⟩ := expr_ctx (fac_ctx (d + 1)) _ _ _ h
    have hpp : p' = p := by
      rw [hp] at e1
      exact (List.append_cancel_right e1).symm
    subst hpp
    have c2 := c1 _ hv
    have ht : ((3, [40], 0) :: (p' ++ (3, [41], 0) :: m') : List Core).tail = p' ++ (3, [41], 0) :: m' := rfl
    rw [ht] at hy
    cases hq : expr (fac d) (p' ++ (3, [41], 0) :: m') with
    | mk o m1 =>
      rw [hq] at hy
      cases o with
      | none => simp at hy
      | some z =>
        have := expr_le (fac_le d) _ _ _ hq
        rw [c2] at this
        simp at this
        obtain ⟨rfl, rfl⟩ := this
        simp only [] at hy
        rw [if_pos (by show isSg [41] (3, [41], 0) = true; decide)] at hy
        simp at hy
        exact ⟨hy.1.symm, hy.2.symm⟩

end Px
end Go.Proofs.YtkobdephobaopaaGreatDoor

namespace Go.Proofs.YtkobdephobaopaaGreatDoor
namespace Ex
mutual
/-- Numbers that fit, short names. -/
def fit : Ex → Prop
  | .mk _ n s l => (-9223372036854775808 ≤ n ∧ n ≤ 9223372036854775807 ∧ s.size ≤ 12) ∧ fits l
def fits : List Ex → Prop
  | [] => True
  | a :: l => fit a ∧ fits l
end
theorem fit_eq (x : Ex) : fit x ↔ (-9223372036854775808 ≤ x.n ∧ x.n ≤ 9223372036854775807 ∧ x.name.size ≤ 12) ∧ fits x.of := by cases x; rw [fit]; rfl
theorem fits_mem {l : List Ex} (h : fits l) : ∀ x ∈ l, fit x := by
  induction l with
  | nil => intro x hx; cases hx
  | cons a l ih =>
    rw [fits] at h
    intro x hx
    rcases List.mem_cons.1 hx with rfl | hx
    · exact h.1
    · exact ih h.2 x hx
end Ex
namespace Px

/-- In parentheses, if it ranks below; nothing more once it is too long. -/
def wrap (k : Int) (f : List UInt8 → List UInt8) (acc : List UInt8) (least : Nat) : List UInt8 :=
  if 6000 < acc.length then acc else if rnk k < least then f (acc ++ [40]) ++ [41] else f acc
def wb : Ex → (List UInt8 → List UInt8)
  | .mk k n s l => fun acc =>
    if k = 1 then acc ++ Lib.itoa n else if k = 2 then acc ++ s.data.toList else
    match l with
    | [y] => if k = 3 then wrap y.kind (wb y) (acc ++ [45]) 4 else acc
    | [y, z] => if sgn k = [] then acc else wrap z.kind (wb z) (wrap y.kind (wb y) acc (max (rnk k) 2) ++ [32] ++ sgn k ++ [32]) (rnk k + 1)
    | _ => acc
def wr (x : Ex) (acc : List UInt8) (least : Nat) : List UInt8 := wrap x.kind (wb x) acc least

theorem wb_num (n : Int) (s : ByteArray) (l : List Ex) (acc : List UInt8) : wb (.mk 1 n s l) acc = acc ++ Lib.itoa n := by rw [wb.eq_def]; simp
theorem wb_name (n : Int) (s : ByteArray) (l : List Ex) (acc : List UInt8) : wb (.mk 2 n s l) acc = acc ++ s.data.toList := by rw [wb.eq_def]; simp
theorem wb_minus (n : Int) (s : ByteArray) (y : Ex) (acc : List UInt8) : wb (.mk 3 n s [y]) acc = wr y (acc ++ [45]) 4 := by rw [wb.eq_def]; simp [wr]
theorem wb_two (k n : Int) (s : ByteArray) (y z : Ex) (acc : List UInt8) (h : sgn k ≠ []) (h1 : k ≠ 1) (h2 : k ≠ 2) : wb (.mk k n s [y, z]) acc = wr z (wr y acc (max (rnk k) 2) ++ [32] ++ sgn k ++ [32]) (rnk k + 1) := by rw [wb.eq_def]; simp [wr, h, h1, h2]
theorem sgn_three : sgn 3 = [] := by decide
theorem wb_none (k n : Int) (s : ByteArray) (l : List Ex) (acc : List UInt8) (h1 : k ≠ 1) (h2 : k ≠ 2) (h3 : ¬ (k = 3 ∧ l.length = 1)) (h4 : ¬ (sgn k ≠ [] ∧ l.length = 2)) : wb (.mk k n s l) acc = acc := by
  rw [wb.eq_def]
  match l with
  | [] => simp [h1, h2]
  | [y] =>
    have : k ≠ 3 := fun e => h3 ⟨e, rfl⟩
    simp [h1, h2, this]
  | [y, z] =>
    have : sgn k = [] := by
      by_cases e : sgn k = []
      · exact e
      · exact absurd ⟨e, rfl⟩ h4
    simp [h1, h2, this]
  | _ :: _ :: _ :: _ => simp [h1, h2]

theorem sgn_len (k : Int) : (sgn k).length ≤ 2 := by
  unfold sgn
  repeat' split
  all_goals simp
theorem wb_len : ∀ x : Ex, x.fit → ∀ acc, (wb x acc).length + 2 ≤ acc.length + 24 * x.size := by
  refine Ex.ind fun x ih hf acc => ?_
  obtain ⟨k, n, s, l⟩ := x
  obtain ⟨⟨h0, h1, h2⟩, hl⟩ := (Ex.fit_eq _).1 hf
  have hsz := Ex.size_eq (.mk k n s l)
  have hn := Lib.itoa_length_le n h0 h1
  have hs : s.data.toList.length = s.size := by simp
  have h2' : s.size ≤ 12 := h2
  by_cases c1 : k = 1
  · subst c1; rw [wb_num, List.length_append]; omega
  by_cases c2 : k = 2
  · subst c2; rw [wb_name, List.length_append]; omega
  have wrl : ∀ y ∈ l, ∀ acc least, (wr y acc least).length ≤ acc.length + 24 * y.size := by
    intro y hy acc least
    have hfy := Ex.fits_mem hl y hy
    have hp := Ex.size_pos y
    unfold wr wrap
    split
    · omega
    · split
      · have := ih y hy hfy (acc ++ [40])
        simp only [List.length_append, List.length_cons, List.length_nil] at this ⊢
        omega
      · have := ih y hy hfy acc
        omega
  by_cases c3 : k = 3 ∧ l.length = 1
  · obtain ⟨rfl, hl1⟩ := c3
    match l, hl1 with
    | [y], _ =>
      rw [wb_minus]
      have := wrl y (by simp) (acc ++ [45]) 4
      have e : Ex.sizes [y] = y.size := by simp [Ex.sizes]
      change Ex.size _ = 1 + Ex.sizes [y] at hsz
      simp only [List.length_append, List.length_cons, List.length_nil] at this
      omega
  by_cases c4 : sgn k ≠ [] ∧ l.length = 2
  · obtain ⟨hk, hl2⟩ := c4
    match l, hl2 with
    | [y, z], _ =>
      rw [wb_two k n s y z acc hk c1 c2]
      have t1 := wrl y (by simp) acc (max (rnk k) 2)
      have t2 := wrl z (by simp) (wr y acc (max (rnk k) 2) ++ [32] ++ sgn k ++ [32]) (rnk k + 1)
      have t3 := sgn_len k
      have e : Ex.sizes [y, z] = y.size + z.size := by simp [Ex.sizes]
      change Ex.size _ = 1 + Ex.sizes [y, z] at hsz
      simp only [List.length_append, List.length_cons, List.length_nil] at t2
      omega
  rw [wb_none k n s l acc c1 c2 c3 c4]
  omega
theorem wr_len (x : Ex) (hf : x.fit) (acc : List UInt8) (least : Nat) : (wr x acc least).length ≤ acc.length + 24 * x.size := by
  unfold wr wrap
  split
  · omega
  · split
    · have := wb_len x hf (acc ++ [40])
      simp only [List.length_append, List.length_cons, List.length_nil] at this ⊢
      omega
    · have := wb_len x hf acc
      omega
end Px
end Go.Proofs.YtkobdephobaopaaGreatDoor

namespace Go.Proofs.YtkobdephobaopaaGreatDoor
namespace Px
open Lx (Core)

/-- An end stays. -/
def Ends (part : P) : Prop := ∀ l x m, part l = (some x, m) → ∀ t ∈ l, t.1 = 4 → t ∈ m
theorem tail_end {l : List Core} (h : (hd l).1 ≠ 4) {t : Core} (ht : t ∈ l) (h4 : t.1 = 4) : t ∈ l.tail := by
  have e := hd_tail h
  rw [e] at ht
  rcases List.mem_cons.1 ht with rfl | ht
  · exact absurd h4 h
  · exact ht
theorem more_ends {of : Nat} {part : P} (h : Ends part) : ∀ f e l x m, more of part f e l = (some x, m) → ∀ t ∈ l, t.1 = 4 → t ∈ m := by
  intro f
  induction f with
  | zero => intro e l x m he t ht h4; rw [more] at he; simp at he; rw [← he.2]; exact ht
  | succ f ih =>
    intro e l x m he t ht h4
    rw [more] at he
    cases hk : opAt of (hd l) with
    | none => rw [hk] at he; simp at he; rw [← he.2]; exact ht
    | some k =>
      rw [hk] at he
      simp only [] at he
      have ht2 := tail_end (by rw [opAt_hd hk]; decide) ht h4
      cases hp : part l.tail with
      | mk o m1 =>
        rw [hp] at he
        cases o with
        | none => simp at he
        | some r => exact ih _ _ _ _ he t (h _ _ _ hp t ht2 h4) h4
theorem row_ends {of : Nat} {part : P} (h : Ends part) : Ends (row of part) := by
  intro l x m he t ht h4
  unfold row at he
  cases hp : part l with
  | mk o m1 =>
    rw [hp] at he
    cases o with
    | none => simp at he
    | some e => exact more_ends h _ _ _ _ _ he t (h _ _ _ hp t ht h4) h4
theorem expr_ends {f : P} (h : Ends f) : Ends (expr f) := by
  have hs : Ends (sum f) := row_ends (row_ends h)
  intro l x m he t ht h4
  unfold expr at he
  cases hp : sum f l with
  | mk o m1 =>
    rw [hp] at he
    cases o with
    | none => simp at he
    | some e =>
      simp only [] at he
      have h1 := hs _ _ _ hp t ht h4
      cases hk : opAt 1 (hd m1) with
      | none => rw [hk] at he; simp at he; rw [← he.2]; exact h1
      | some k =>
        rw [hk] at he
        simp only [] at he
        have h2 := tail_end (by rw [opAt_hd hk]; decide) h1 h4
        cases hq : sum f m1.tail with
        | mk o m2 =>
          rw [hq] at he
          cases o with
          | none => simp at he
          | some r => simp at he; rw [← he.2]; exact hs _ _ _ hq t h2 h4
theorem minus_ends {f : P} (h : Ends f) : Ends (minus f) := by
  intro l x m he t ht h4
  unfold minus at he
  cases hp : f l with
  | mk o m1 =>
    rw [hp] at he
    cases o with
    | none => simp at he
    | some e => simp at he; rw [← he.2]; exact h _ _ _ hp t ht h4
theorem paren_ends {f : P} (h : Ends f) : Ends (paren f) := by
  intro l x m he t ht h4
  unfold paren at he
  cases hp : expr f l with
  | mk o m1 =>
    rw [hp] at he
    cases o with
    | none => simp at he
    | some e =>
      simp only [] at he
      have h1 := expr_ends h _ _ _ hp t ht h4
      split at he
      · rename_i hc
        simp at he; rw [← he.2]
        exact tail_end (by rw [isSg_hd hc]; decide) h1 h4
      · simp at he
theorem fac_ends : ∀ d, Ends (fac d) := by
  intro d
  induction d with
  | zero =>
    intro l x m he t ht h4
    rw [fac_zero] at he
    split at he
    · rename_i h2; simp at he; rw [← he.2]; exact tail_end (by rw [h2]; decide) ht h4
    · split at he
      · rename_i h1; simp at he; rw [← he.2]; exact tail_end (by rw [h1.1]; decide) ht h4
      · simp at he
  | succ d ih =>
    intro l x m he t ht h4
    rw [fac_succ] at he
    split at he
    · rename_i h2; simp at he; rw [← he.2]; exact tail_end (by rw [h2]; decide) ht h4
    · split at he
      · rename_i h1; simp at he; rw [← he.2]; exact tail_end (by rw [h1.1]; decide) ht h4
      · split at he
        · rename_i h3; exact minus_ends ih _ _ _ he t (tail_end (by rw [isSg_hd h3]; decide) ht h4) h4
        · split at he
          · rename_i h5; exact paren_ends ih _ _ _ he t (tail_end (by rw [isSg_hd h5]; decide) ht h4) h4
          · simp at he

/-- How a list of tokens is read, from its first one on. -/
abbrev read (l : List Core) : Option Ex × List Core := expr (fac 8) l
theorem read_suf (l : List Core) : (read l).2 <:+ l := expr_suf (fac_suf 8) l

/-- The end of the tokens of a text. -/
theorem run_end (f : Nat) : ∀ (p : Nat) (l : List UInt8) (ts : List Lx.Tk), Lx.run f p l = .good ts → ∃ t ∈ ts, t.kind = 4 := by
  induction f with
  | zero => intro p l ts h; cases h
  | succ f ih =>
    intro p l ts h
    cases l with
    | nil => simp [Lx.run] at h; rw [← h]; exact ⟨_, List.mem_cons_self .., rfl⟩
    | cons c r =>
      rw [Lx.run_cons] at h
      split at h
      · exact ih _ _ _ h
      · split at h
        · exact ih _ _ _ h
        · cases ho : Lx.one (c :: r) with
          | none => rw [ho] at h; cases h
          | some x =>
            obtain ⟨k, len, n⟩ := x
            rw [ho] at h
            simp only [] at h
            cases hr : Lx.run f (p + len) ((c :: r).drop len) with
            | bad q => rw [hr] at h; cases h
            | good us =>
              rw [hr] at h
              simp only [Lx.Out.pre, Lx.Out.good.injEq] at h
              obtain ⟨t, ht, hk⟩ := ih _ _ _ hr
              exact ⟨t, by rw [← h]; exact List.mem_append_right _ ht, hk⟩
theorem toks_end {l : List UInt8} {ts : List Lx.Tk} (h : Lx.toks l = .good ts) : ∃ t ∈ ts, t.kind = 4 := by
  unfold Lx.toks at h
  split at h
  · cases h
  · exact run_end _ _ _ _ h
theorem read_left {l : List UInt8} {ts : List Lx.Tk} (h : Lx.toks l = .good ts) {x : Ex} {m : List Core} (hr : read (ts.map Lx.Tk.core) = (some x, m)) : m ≠ [] := by
  obtain ⟨t, ht, hk⟩ := toks_end h
  have := expr_ends (fac_ends 8) _ _ _ hr t.core (List.mem_map_of_mem ht) hk
  intro e; rw [e] at this; cases this

theorem toks_ne (l : List UInt8) (ts : List Lx.Tk) (h : Lx.toks l = .good ts) : ts ≠ [] := by
  unfold Lx.toks at h
  split at h
  · cases h
  · exact Lx.run_ne _ _ _ _ h
theorem toks_len (l : List UInt8) (ts : List Lx.Tk) (h : Lx.toks l = .good ts) : l.length ≤ 6000 := by
  unfold Lx.toks at h
  split at h
  · cases h
  · omega
theorem run_count (f : Nat) : ∀ (p : Nat) (l : List UInt8) (ts : List Lx.Tk), Lx.run f p l = .good ts → ts.length ≤ l.length + 1 := by
  induction f with
  | zero => intro p l ts h; cases h
  | succ f ih =>
    intro p l ts h
    cases l with
    | nil => simp [Lx.run] at h; subst h; simp
    | cons c r =>
      rw [Lx.run_cons] at h
      split at h
      · have := ih _ _ _ h; simp; omega
      · split at h
        · have := ih _ _ _ h
          rw [List.length_drop] at this
          simp; omega
        · cases ho : Lx.one (c :: r) with
          | none => rw [ho] at h; cases h
          | some x =>
            obtain ⟨k, len, n⟩ := x
            have hl := Lx.one_len ho
            rw [ho] at h
            simp only [] at h
            cases hr : Lx.run f (p + len) ((c :: r).drop len) with
            | bad q => rw [hr] at h; cases h
            | good us =>
              rw [hr] at h
              simp only [Lx.Out.pre, Lx.Out.good.injEq] at h
              subst h
              have := ih _ _ _ hr
              rw [List.length_drop] at this
              simp only [List.length_append, List.length_singleton]
              omega
theorem toks_count (l : List UInt8) (ts : List Lx.Tk) (h : Lx.toks l = .good ts) : ts.length ≤ 6001 := by
  unfold Lx.toks at h
  split at h
  · cases h
  · have := run_count _ _ _ _ h; omega

/-- The text of an expression; none if that is not read as it again. -/
def print (x : Ex) : List UInt8 :=
  match Lx.toks (wr x [] 1) with
  | .bad _ => []
  | .good ts => match read (ts.map Lx.Tk.core) with
    | (none, _) => []
    | (some y, m) => if (hd m).1 = 4 ∧ y.same x = true then wr x [] 1 else []
theorem print_bad {x : Ex} {q : Nat} (h : Lx.toks (wr x [] 1) = .bad q) : print x = [] := by unfold print; rw [h]
theorem print_no {x : Ex} {ts : List Lx.Tk} {m : List Core} (h : Lx.toks (wr x [] 1) = .good ts) (hr : read (ts.map Lx.Tk.core) = (none, m)) : print x = [] := by unfold print; rw [h]; simp only [hr]
theorem print_if {x y : Ex} {ts : List Lx.Tk} {m : List Core} (h : Lx.toks (wr x [] 1) = .good ts) (hr : read (ts.map Lx.Tk.core) = (some y, m)) : print x = if (hd m).1 = 4 ∧ y.same x = true then wr x [] 1 else [] := by unfold print; rw [h]; simp only [hr]
/-- What was printed is read as it again. -/
theorem print_some {x : Ex} (h : print x ≠ []) : print x = wr x [] 1 ∧ ∃ ts y m, Lx.toks (wr x [] 1) = .good ts ∧ read (ts.map Lx.Tk.core) = (some y, m) ∧ (hd m).1 = 4 ∧ y.same x = true := by
  cases ht : Lx.toks (wr x [] 1) with
  | bad q => exact absurd (print_bad ht) h
  | good ts =>
    cases hr : read (ts.map Lx.Tk.core) with
    | mk o m =>
      cases o with
      | none => exact absurd (print_no ht hr) h
      | some y =>
        have e := print_if ht hr
        by_cases hc : (hd m).1 = 4 ∧ y.same x = true
        · rw [if_pos hc] at e
          exact ⟨e, ts, y, m, rfl, hr, hc.1, hc.2⟩
        · rw [if_neg hc] at e
          exact absurd e h
end Px
end Go.Proofs.YtkobdephobaopaaGreatDoor

namespace Go.Proofs.YtkobdephobaopaaGreatDoor
namespace Px
open Lx (Core)

/-- Expressions that a text can say. -/
inductive Wf : Ex → Prop where
  | num (n : Nat) : n < 9223372036854775808 → Wf (numE n)
  | name (t : List UInt8) : isNm t = true → Wf (nameE t)
  | minus (y : Ex) : Wf y → Wf (minusE y)
  | bin (k : Nat) (y z : Ex) : 4 ≤ k → k ≤ 10 → Wf y → Wf z → Wf (binE k y z)

def tpw (k : Int) (t : List UInt8) (least : Nat) : List UInt8 := if rnk k < least then 40 :: (t ++ [41]) else t
def tb : Ex → List UInt8
  | .mk k n s l => if k = 1 then Lib.itoa n else if k = 2 then s.data.toList else
    match l with
    | [y] => 45 :: tpw y.kind (tb y) 4
    | [y, z] => tpw y.kind (tb y) (max (rnk k) 2) ++ 32 :: (sgn k ++ 32 :: tpw z.kind (tb z) (rnk k + 1))
    | _ => []
def cpw (k : Int) (c : List Core) (least : Nat) : List Core := if rnk k < least then (3, [40], 0) :: (c ++ [(3, [41], 0)]) else c
def cb : Ex → List Core
  | .mk k n s l => if k = 1 then [(2, Lib.itoa n, n.toNat)] else if k = 2 then [(1, s.data.toList, 0)] else
    match l with
    | [y] => (3, [45], 0) :: cpw y.kind (cb y) 4
    | [y, z] => cpw y.kind (cb y) (max (rnk k) 2) ++ (3, sgn k, 0) :: cpw z.kind (cb z) (rnk k + 1)
    | _ => []
def dpw (k : Int) (d : Nat) (least : Nat) : Nat := if rnk k < least then 1 + d else d
def dp : Ex → Nat
  | .mk k _ _ l =>
    match l with
    | [y] => 1 + dpw y.kind (dp y) 4
    | [y, z] => max (dpw y.kind (dp y) (max (rnk k) 2)) (dpw z.kind (dp z) (rnk k + 1))
    | _ => 0
abbrev T (x : Ex) (l : Nat) : List UInt8 := tpw x.kind (tb x) l
abbrev C (x : Ex) (l : Nat) : List Core := cpw x.kind (cb x) l
abbrev D (x : Ex) (l : Nat) : Nat := dpw x.kind (dp x) l

theorem tb_num (n : Nat) : tb (numE n) = Lib.itoa n := by unfold numE; rw [tb.eq_def]; simp
theorem tb_name (t : List UInt8) : tb (nameE t) = t := by unfold nameE; rw [tb.eq_def]; simp [ba]
theorem tb_minus (y : Ex) : tb (minusE y) = 45 :: T y 4 := by unfold minusE; rw [tb.eq_def]; simp
theorem cb_num (n : Nat) : cb (numE n) = [(2, Lib.itoa n, n)] := by unfold numE; rw [cb.eq_def]; simp
theorem cb_name (t : List UInt8) : cb (nameE t) = [(1, t, 0)] := by unfold nameE; rw [cb.eq_def]; simp [ba]
theorem cb_minus (y : Ex) : cb (minusE y) = (3, [45], 0) :: C y 4 := by unfold minusE; rw [cb.eq_def]; simp
theorem dp_num (n : Nat) : dp (numE n) = 0 := by unfold numE; rw [dp.eq_def]
theorem dp_name (t : List UInt8) : dp (nameE t) = 0 := by unfold nameE; rw [dp.eq_def]
theorem dp_minus (y : Ex) : dp (minusE y) = 1 + D y 4 := by unfold minusE; rw [dp.eq_def]
theorem k12 {k : Nat} (h : 4 ≤ k) : ¬ ((k : Int) = 1) ∧ ¬ ((k : Int) = 2) := ⟨by omega, by omega⟩
theorem tb_bin (k : Nat) (y z : Ex) (h : 4 ≤ k) : tb (binE k y z) = T y (max (rnk k) 2) ++ 32 :: (sgn k ++ 32 :: T z (rnk k + 1)) := by
  unfold binE; rw [tb.eq_def]; simp only [(k12 h).1, (k12 h).2, if_false]
theorem cb_bin (k : Nat) (y z : Ex) (h : 4 ≤ k) : cb (binE k y z) = C y (max (rnk k) 2) ++ (3, sgn k, 0) :: C z (rnk k + 1) := by
  unfold binE; rw [cb.eq_def]; simp only [(k12 h).1, (k12 h).2, if_false]
theorem dp_bin (k : Nat) (y z : Ex) : dp (binE k y z) = max (D y (max (rnk k) 2)) (D z (rnk k + 1)) := by
  unfold binE; rw [dp.eq_def]

theorem seven {P : Nat → Prop} (h4 : P 4) (h5 : P 5) (h6 : P 6) (h7 : P 7) (h8 : P 8) (h9 : P 9) (h10 : P 10) : ∀ k, 4 ≤ k → k ≤ 10 → P k := by
  intro k h1 h2
  match k, h1, h2 with
  | 4, _, _ => exact h4
  | 5, _, _ => exact h5
  | 6, _, _ => exact h6
  | 7, _, _ => exact h7
  | 8, _, _ => exact h8
  | 9, _, _ => exact h9
  | 10, _, _ => exact h10
theorem rnk_bin : ∀ k : Nat, 4 ≤ k → k ≤ 10 → 1 ≤ rnk (k : Int) ∧ rnk (k : Int) ≤ 3 := seven (by decide) (by decide) (by decide) (by decide) (by decide) (by decide) (by decide)
theorem sgn_bin : ∀ k : Nat, 4 ≤ k → k ≤ 10 → sgn (k : Int) ≠ [] := seven (by decide) (by decide) (by decide) (by decide) (by decide) (by decide) (by decide)
theorem op_bin : ∀ k : Nat, 4 ≤ k → k ≤ 10 → ∀ of, 1 ≤ of → of ≤ 3 → opAt of (3, sgn (k : Int), 0) = if rnk (k : Int) = of then some k else none := by
  have three : ∀ k : Nat, opAt 1 (3, sgn (k : Int), 0) = (if rnk (k : Int) = 1 then some k else none) → opAt 2 (3, sgn (k : Int), 0) = (if rnk (k : Int) = 2 then some k else none) → opAt 3 (3, sgn (k : Int), 0) = (if rnk (k : Int) = 3 then some k else none) → ∀ of, 1 ≤ of → of ≤ 3 → opAt of (3, sgn (k : Int), 0) = if rnk (k : Int) = of then some k else none := by
    intro k h1 h2 h3 of ha hb
    match of, ha, hb with
    | 1, _, _ => exact h1
    | 2, _, _ => exact h2
    | 3, _, _ => exact h3
  exact seven (three 4 (by decide) (by decide) (by decide)) (three 5 (by decide) (by decide) (by decide)) (three 6 (by decide) (by decide) (by decide)) (three 7 (by decide) (by decide) (by decide)) (three 8 (by decide) (by decide) (by decide)) (three 9 (by decide) (by decide) (by decide)) (three 10 (by decide) (by decide) (by decide))
theorem opAt_kind {of k : Nat} {t : Core} (h : opAt of t = some k) : 4 ≤ k ∧ k ≤ 10 ∧ rnk (k : Int) = of ∧ t.1 = 3 ∧ t.2.1 = sgn (k : Int) := by
  unfold opAt at h
  split at h
  · rename_i h3
    have h1 := List.find?_some h
    have h2 := List.mem_of_find?_eq_some h
    simp only [Bool.and_eq_true, beq_iff_eq] at h1
    simp only [List.mem_cons, List.not_mem_nil, or_false] at h2
    exact ⟨by omega, by omega, h1.1, h3, h1.2⟩
  · cases h
theorem rnk_pos (k : Int) : 1 ≤ rnk k := by unfold rnk; repeat' split
                                            all_goals decide

/-! ### Written out -/
theorem wb_text {x : Ex} (h : Wf x) : ∀ acc, acc.length + (tb x).length ≤ 6000 → wb x acc = acc ++ tb x := by
  have wrap_ok : ∀ (y : Ex), (∀ acc, acc.length + (tb y).length ≤ 6000 → wb y acc = acc ++ tb y) → ∀ acc l, acc.length + (T y l).length ≤ 6000 → wr y acc l = acc ++ T y l := by
    intro y ih acc l hl
    unfold T tpw at hl ⊢
    unfold wr wrap
    split at hl
    · rename_i hr
      simp only [List.length_cons, List.length_append, List.length_nil] at hl
      rw [if_neg (by omega), if_pos hr, if_pos hr, ih _ (by simp; omega)]
      simp
    · rename_i hr
      rw [if_neg (by omega), if_neg hr, if_neg hr, ih _ hl]
  induction h with
  | num n hn => intro acc _; rw [tb_num]; exact wb_num ..
  | name t ht => intro acc _; rw [tb_name]; unfold nameE; rw [wb_name]; simp [ba]
  | minus y _ ih =>
    intro acc hl
    rw [tb_minus] at hl ⊢
    unfold minusE
    simp only [List.length_cons] at hl
    rw [wb_minus, wrap_ok y ih _ _ (by simp; omega)]
    simp
  | bin k y z h1 h2 _ _ iy iz =>
    intro acc hl
    rw [tb_bin k y z h1] at hl ⊢
    simp only [List.length_append, List.length_cons] at hl
    unfold binE
    rw [wb_two _ _ _ _ _ _ (sgn_bin k h1 h2) (k12 h1).1 (k12 h1).2]
    rw [wrap_ok y iy _ _ (by omega), wrap_ok z iz _ _ (by simp only [List.length_append, List.length_cons, List.length_nil]; omega)]
    simp
theorem wr_text {x : Ex} (h : Wf x) (acc : List UInt8) (l : Nat) (hl : acc.length + (T x l).length ≤ 6000) : wr x acc l = acc ++ T x l := by
  unfold T tpw at hl ⊢
  unfold wr wrap
  split at hl
  · rename_i hr
    simp only [List.length_cons, List.length_append, List.length_nil] at hl
    rw [if_neg (by omega), if_pos hr, if_pos hr, wb_text h _ (by simp; omega)]
    simp
  · rename_i hr
    rw [if_neg (by omega), if_neg hr, if_neg hr, wb_text h _ hl]

/-! ### Numbers -/
theorem val_append (d : List UInt8) (c : UInt8) : Lx.val (d ++ [c]) = Lx.val d * 10 + (c.toNat - 48) := by
  unfold Lx.val; rw [List.foldl_append]; rfl
theorem dec_big {u : Nat} (h : ¬ u < 10) : Lib.decDigits u = Lib.decDigits (u / 10) ++ [UInt8.ofNat (48 + u % 10)] := by
  rw [Lib.decDigits, dif_neg h]
theorem digit_of {r : Nat} (h : r < 10) : (UInt8.ofNat (48 + r)).toNat = 48 + r := by
  simp; omega
theorem digit_ok {r : Nat} (h : r < 10) : Lx.digit (UInt8.ofNat (48 + r)) = true := by
  rw [Lx.digit_iff, digit_of h]; omega
theorem dec_facts (u : Nat) : Lib.decDigits u ≠ [] ∧ (∀ c ∈ Lib.decDigits u, Lx.digit c = true) ∧ Lx.val (Lib.decDigits u) = u ∧ (1 ≤ u → ∃ c r, Lib.decDigits u = c :: r ∧ c ≠ 48) := by
  induction u using Nat.strongRecOn with
  | _ u ih =>
    by_cases h : u < 10
    · rw [Lib.decDigits_one h]
      refine ⟨by simp, ?_, ?_, fun h1 => ⟨_, _, rfl, ?_⟩⟩
      · intro c hc; rw [List.mem_singleton] at hc; subst hc; exact digit_ok h
      · have := val_append [] (UInt8.ofNat (48 + u))
        rw [List.nil_append] at this
        rw [this, digit_of h]
        show 0 * 10 + (48 + u - 48) = u
        omega
      · intro e
        have := congrArg UInt8.toNat e
        rw [digit_of h] at this
        have h48 : (48 : UInt8).toNat = 48 := rfl
        omega
    · rw [dec_big h]
      obtain ⟨h1, h2, h3, h4⟩ := ih (u / 10) (by omega)
      have hm : u % 10 < 10 := Nat.mod_lt _ (by decide)
      refine ⟨by simp, ?_, ?_, fun _ => ?_⟩
      · intro c hc
        rcases List.mem_append.1 hc with hc | hc
        · exact h2 c hc
        · rw [List.mem_singleton] at hc; subst hc; exact digit_ok hm
      · rw [val_append, h3, digit_of hm]; omega
      · obtain ⟨c, r, e, hc⟩ := h4 (by omega)
        exact ⟨c, r ++ [UInt8.ofNat (48 + u % 10)], by rw [e]; rfl, hc⟩
theorem num_dec (n : Nat) (h : n < 9223372036854775808) : Lx.num (Lib.decDigits n) = some n := by
  obtain ⟨h1, h2, h3, h4⟩ := dec_facts n
  unfold Lx.num
  rw [h3, if_neg, if_pos h]
  rintro ⟨hl, hh⟩
  by_cases h0 : 1 ≤ n
  · obtain ⟨c, r, e, hc⟩ := h4 h0
    rw [e] at hh
    simp at hh
    exact hc hh
  · have : n = 0 := by omega
    subst this
    rw [Lib.decDigits_one (by decide)] at hl
    simp at hl
theorem dec_val (d : List UInt8) : d ≠ [] → (∀ c ∈ d, Lx.digit c = true) → (d.length = 1 ∨ d.head? ≠ some 48) → Lib.decDigits (Lx.val d) = d ∧ (d.head? ≠ some 48 → 1 ≤ Lx.val d) := by
  induction hn : d.length using Nat.strongRecOn generalizing d with
  | _ n ih =>
    intro hne hd hh
    have e := List.dropLast_concat_getLast hne
    obtain ⟨d', c, rfl⟩ : ∃ d' c, d = d' ++ [c] := ⟨_, _, e.symm⟩
    have hc := (Lx.digit_iff c).1 (hd c (by simp))
    rw [val_append]
    by_cases h0 : d' = []
    · subst h0
      have hv : Lx.val [] = 0 := rfl
      rw [hv]
      refine ⟨?_, fun hx => ?_⟩
      · rw [Nat.zero_mul, Nat.zero_add, Lib.decDigits_one (by omega)]
        simp only [List.nil_append, List.cons.injEq, and_true]
        apply UInt8.toNat_inj.1
        rw [digit_of (by omega)]; omega
      · simp at hx
        have : c.toNat ≠ 48 := fun e' => hx (UInt8.toNat_inj.1 (by rw [e']; rfl))
        omega
    · have hh' : d'.head? ≠ some 48 := by
        rcases hh with h1 | h1
        · exfalso; simp at hn; have := List.length_pos_iff.2 h0; omega
        · cases d' with
          | nil => exact absurd rfl h0
          | cons a b => exact h1
      obtain ⟨i1, i2⟩ := ih d'.length (by rw [← hn]; simp) d' rfl h0 (fun x hx => hd x (by simp [hx])) (Or.inr hh')
      have hv := i2 hh'
      refine ⟨?_, fun _ => by omega⟩
      have hq : (Lx.val d' * 10 + (c.toNat - 48)) / 10 = Lx.val d' := by omega
      have hm : (Lx.val d' * 10 + (c.toNat - 48)) % 10 = c.toNat - 48 := by omega
      rw [dec_big (by omega), hq, hm, i1]
      congr 2
      apply UInt8.toNat_inj.1
      rw [digit_of (by omega)]; omega
theorem num_back {d : List UInt8} {n : Nat} (hne : d ≠ []) (hd : ∀ c ∈ d, Lx.digit c = true) (h : Lx.num d = some n) : n < 9223372036854775808 ∧ Lib.itoa n = d := by
  unfold Lx.num at h
  split at h
  · cases h
  · rename_i hc
    split at h
    · rename_i hlt
      simp at h
      subst h
      refine ⟨hlt, ?_⟩
      rw [Lib.itoa_nonneg]
      refine (dec_val d hne hd ?_).1
      by_cases h1 : d.length = 1
      · exact Or.inl h1
      · right
        intro hh
        have := List.length_pos_iff.2 hne
        exact hc ⟨by omega, hh⟩
    · cases h

/-! ### Tokens of what is written -/
/-- No word and no number goes on with it. -/
def Stop (r : List UInt8) : Prop := ∀ c t, r = c :: t → Lx.goes c = false
theorem stop_cons {c : UInt8} (h : Lx.goes c = false) (r : List UInt8) : Stop (c :: r) := by intro d t e; cases e; exact h
theorem stop_nil : Stop [] := by intro d t e; cases e
theorem goes_digit {c : UInt8} (h : Lx.goes c = false) : Lx.digit c = false := by unfold Lx.goes at h; simp only [Bool.or_eq_false_iff] at h; exact h.2
theorem tw_stop (p : UInt8 → Bool) (l r : List UInt8) (hl : ∀ c ∈ l, p c = true) (hr : ∀ c t, r = c :: t → p c = false) : (l ++ r).takeWhile p = l := by
  induction l with
  | nil =>
    cases r with
    | nil => rfl
    | cons c t => simp [hr c t rfl]
  | cons a l ih => rw [List.cons_append, List.takeWhile_cons, if_pos (hl a (by simp)), ih fun c hc => hl c (by simp [hc])]
theorem cr_sign (c : UInt8) (hl : Lx.lower c = false) (hd : Lx.digit c = false) (hb : Lx.blank c = false) (h35 : c ≠ 35) (h61 : c ≠ 61) (hs : Lx.signs.contains c = true) (r : List UInt8) : Lx.cr (c :: r) = (Lx.cr r).map fun ts => (3, [c], 0) :: ts := by
  have ho : Lx.one (c :: r) = some (3, 1, 0) := by
    rw [Lx.one_cons, if_neg (by rw [hl]; decide), if_neg (by rw [hd]; decide), if_neg (by intro e; exact h61 e.1), if_pos hs]
  rw [Lx.cr_one c r hb h35 ho]; rfl
theorem cr_eq (r : List UInt8) : Lx.cr (61 :: 61 :: r) = (Lx.cr r).map fun ts => (3, [61, 61], 0) :: ts := by
  have ho : Lx.one (61 :: 61 :: r) = some (3, 2, 0) := by
    rw [Lx.one_cons, if_neg (by decide), if_neg (by decide), if_pos ⟨rfl, rfl⟩]
  rw [Lx.cr_one 61 (61 :: r) (by decide) (by decide) ho]; rfl
theorem cr_sgn : ∀ k : Nat, 4 ≤ k → k ≤ 10 → ∀ r, Lx.cr (sgn (k : Int) ++ r) = (Lx.cr r).map fun ts => (3, sgn (k : Int), 0) :: ts := by
  refine seven ?_ ?_ ?_ ?_ ?_ ?_ ?_
  · exact cr_sign 43 (by decide) (by decide) (by decide) (by decide) (by decide) (by decide)
  · exact cr_sign 45 (by decide) (by decide) (by decide) (by decide) (by decide) (by decide)
  · exact cr_sign 42 (by decide) (by decide) (by decide) (by decide) (by decide) (by decide)
  · exact cr_sign 47 (by decide) (by decide) (by decide) (by decide) (by decide) (by decide)
  · exact cr_sign 37 (by decide) (by decide) (by decide) (by decide) (by decide) (by decide)
  · exact cr_sign 60 (by decide) (by decide) (by decide) (by decide) (by decide) (by decide)
  · exact cr_eq
theorem cr_open (r : List UInt8) : Lx.cr (40 :: r) = (Lx.cr r).map fun ts => (3, [40], 0) :: ts := cr_sign 40 (by decide) (by decide) (by decide) (by decide) (by decide) (by decide) r
theorem cr_shut (r : List UInt8) : Lx.cr (41 :: r) = (Lx.cr r).map fun ts => (3, [41], 0) :: ts := cr_sign 41 (by decide) (by decide) (by decide) (by decide) (by decide) (by decide) r
theorem cr_min (r : List UInt8) : Lx.cr (45 :: r) = (Lx.cr r).map fun ts => (3, [45], 0) :: ts := cr_sign 45 (by decide) (by decide) (by decide) (by decide) (by decide) (by decide) r
theorem digit_not {c : UInt8} (h : Lx.digit c = true) : Lx.lower c = false ∧ Lx.blank c = false ∧ c ≠ 35 := by
  have hc := (Lx.digit_iff c).1 h
  have h2 : ∀ d : UInt8, d.toNat < 48 → c ≠ d := by intro d hd e; subst e; omega
  have a1 := h2 32 (by decide)
  have a2 := h2 9 (by decide)
  have a3 := h2 10 (by decide)
  refine ⟨?_, by simp [Lx.blank, a1, a2, a3], h2 35 (by decide)⟩
  unfold Lx.lower
  rw [decide_eq_false (by omega)]; rfl
theorem cr_num (n : Nat) (hn : n < 9223372036854775808) (r : List UInt8) (hr : Stop r) : Lx.cr (Lib.itoa n ++ r) = (Lx.cr r).map fun ts => (2, Lib.itoa n, n) :: ts := by
  rw [Lib.itoa_nonneg]
  obtain ⟨h1, h2, -, -⟩ := dec_facts n
  have hnum := num_dec n hn
  cases e : Lib.decDigits n with
  | nil => exact absurd e h1
  | cons c d =>
    rw [e] at h2 hnum
    have hc := h2 c (by simp)
    obtain ⟨q1, q2, q3⟩ := digit_not hc
    have htw : (d ++ r).takeWhile Lx.digit = d := tw_stop _ _ _ (fun x hx => h2 x (by simp [hx])) fun x t ex => goes_digit (hr x t ex)
    have ho : Lx.one (c :: (d ++ r)) = some (2, 1 + d.length, n) := by
      rw [Lx.one_cons, if_neg (by rw [q1]; decide), if_pos hc, htw, hnum]; rfl
    rw [List.cons_append, Lx.cr_one c (d ++ r) q2 q3 ho]
    have e1 : (c :: (d ++ r)).drop (1 + d.length) = r := by rw [Nat.add_comm, List.drop_succ_cons, List.drop_left]
    have e2 : (c :: (d ++ r)).take (1 + d.length) = c :: d := by rw [Nat.add_comm, List.take_succ_cons, List.take_left]
    rw [e1, e2]
theorem cr_name (t : List UInt8) (ht : isNm t = true) (r : List UInt8) (hr : Stop r) : Lx.cr (t ++ r) = (Lx.cr r).map fun ts => (1, t, 0) :: ts := by
  unfold isNm at ht
  simp only [Bool.and_eq_true] at ht
  have hw := ht.1
  cases t with
  | nil => cases hw
  | cons c d =>
    simp only [Lx.isWord, Bool.and_eq_true, decide_eq_true_eq] at hw
    obtain ⟨⟨h1, h2⟩, h3⟩ := hw
    obtain ⟨q2, q3⟩ := Lx.lower_not c h1
    rw [List.all_eq_true] at h2
    have htw : (d ++ r).takeWhile Lx.goes = d := tw_stop _ _ _ h2 hr
    have ho : Lx.one (c :: (d ++ r)) = some (1, 1 + d.length, 0) := by
      rw [Lx.one_cons, if_pos h1, htw, if_pos (by omega)]
    rw [List.cons_append, Lx.cr_one c (d ++ r) q2 q3 ho]
    have e1 : (c :: (d ++ r)).drop (1 + d.length) = r := by rw [Nat.add_comm, List.drop_succ_cons, List.drop_left]
    have e2 : (c :: (d ++ r)).take (1 + d.length) = c :: d := by rw [Nat.add_comm, List.take_succ_cons, List.take_left]
    rw [e1, e2]
theorem map_map_cons (o : Option (List Core)) (a b : List Core) : (o.map fun ts => b ++ ts).map (fun ts => a ++ ts) = o.map fun ts => (a ++ b) ++ ts := by
  cases o <;> simp
theorem cr_tb {x : Ex} (h : Wf x) : ∀ r, Stop r → Lx.cr (tb x ++ r) = (Lx.cr r).map fun ts => cb x ++ ts := by
  have wrapped : ∀ y : Ex, (∀ r, Stop r → Lx.cr (tb y ++ r) = (Lx.cr r).map fun ts => cb y ++ ts) → ∀ l r, Stop r → Lx.cr (T y l ++ r) = (Lx.cr r).map fun ts => C y l ++ ts := by
    intro y ih l r hr
    unfold T C tpw cpw
    split
    · rw [List.cons_append, List.append_assoc, cr_open, show ([41] ++ r : List UInt8) = 41 :: r from rfl, ih (41 :: r) (stop_cons (by decide) _), cr_shut]
      cases Lx.cr r <;> simp
    · exact ih r hr
  induction h with
  | num n hn => intro r hr; rw [tb_num, cb_num]; exact cr_num n hn r hr
  | name t ht => intro r hr; rw [tb_name, cb_name]; exact cr_name t ht r hr
  | minus y _ ih =>
    intro r hr
    rw [tb_minus, cb_minus, List.cons_append, cr_min, wrapped y ih 4 r hr]
    cases Lx.cr r <;> simp
  | bin k y z h1 h2 _ _ iy iz =>
    intro r hr
    rw [tb_bin k y z h1, cb_bin k y z h1, List.append_assoc, List.cons_append, wrapped y iy _ _ (stop_cons (by decide) _), Lx.cr_blank 32 _ (by decide), List.append_assoc, List.cons_append, cr_sgn k h1 h2, Lx.cr_blank 32 _ (by decide), wrapped z iz _ r hr]
    cases Lx.cr r <;> simp
theorem cr_T {x : Ex} (h : Wf x) (l : Nat) (r : List UInt8) (hr : Stop r) : Lx.cr (T x l ++ r) = (Lx.cr r).map fun ts => C x l ++ ts := by
  unfold T C tpw cpw
  split
  · rw [List.cons_append, List.append_assoc, cr_open, show ([41] ++ r : List UInt8) = 41 :: r from rfl, cr_tb h (41 :: r) (stop_cons (by decide) _), cr_shut]
    cases Lx.cr r <;> simp
  · exact cr_tb h r hr
end Px
end Go.Proofs.YtkobdephobaopaaGreatDoor

namespace Go.Proofs.YtkobdephobaopaaGreatDoor
namespace Px
open Lx (Core)

/-! ### What is written is read -/
def Ok (l : Nat) (r : List Core) : Prop := ∀ of, l ≤ of → of ≤ 3 → opAt of (hd r) = none
theorem Ok.up {l l' : Nat} {r : List Core} (h : Ok l r) (hl : l ≤ l') : Ok l' r := fun of h1 h2 => h of (Nat.le_trans hl h1) h2
def Reads (part : P) (l d : Nat) : Prop := ∀ x, Wf x → D x l ≤ d → ∀ r, Ok l r → part (C x l ++ r) = (some x, r)

theorem more_fuel {of : Nat} {part : P} (h : Ctx part) : ∀ f g e l, l.length ≤ f → l.length ≤ g → more of part f e l = more of part g e l := by
  intro f
  induction f with
  | zero =>
    intro g e l hf hg
    have : l = [] := List.eq_nil_of_length_eq_zero (by omega)
    subst this
    have hn : opAt of (hd []) = none := by unfold opAt hd; rfl
    rw [more_none hn, more_none hn]
  | succ f ih =>
    intro g e l hf hg
    cases hk : opAt of (hd l) with
    | none => rw [more_none hk, more_none hk]
    | some k =>
      have hl : l = hd l :: l.tail := hd_tail (by rw [opAt_hd hk]; decide)
      have hll : l.length = l.tail.length + 1 := by conv => lhs; rw [hl]
                                                    simp
      cases g with
      | zero => omega
      | succ g =>
        rw [more, more, hk]
        simp only []
        cases hp : part l.tail with
        | mk o m =>
          cases o with
          | none => rfl
          | some r =>
            obtain ⟨p, e1, n1, -⟩ := h _ _ _ hp
            have := List.length_pos_iff.2 n1
            have h2 : l.tail.length = p.length + m.length := by rw [e1, List.length_append]
            exact ih g _ m (by omega) (by omega)

/-- A row that is written is read on to its end. -/
theorem row_go {of d : Nat} {part : P} (hof : of = 2 ∨ of = 3) (hc : Ctx part) (h : Reads part (of + 1) d) {x : Ex} (hx : Wf x) : D x of ≤ d → ∀ r, Ok (of + 1) r → row of part (C x of ++ r) = more of part r.length x r := by
  have base : ∀ y, Wf y → rnk y.kind ≠ of → D y of ≤ d → ∀ r, Ok (of + 1) r → row of part (C y of ++ r) = more of part r.length y r := by
    intro y hy hr hD r ho
    have e1 : C y of = C y (of + 1) := by unfold C cpw; by_cases c : rnk y.kind < of
                                          · rw [if_pos c, if_pos (by omega)]
                                          · rw [if_neg c, if_neg (by omega)]
    have e2 : D y of = D y (of + 1) := by unfold D dpw; by_cases c : rnk y.kind < of
                                          · rw [if_pos c, if_pos (by omega)]
                                          · rw [if_neg c, if_neg (by omega)]
    rw [e1]
    unfold row
    rw [h y hy (by rw [← e2]; exact hD) r ho]
  induction hx with
  | num n hn => exact base _ (.num n hn) (by show (4 : Nat) ≠ of; omega)
  | name t ht => exact base _ (.name t ht) (by show (4 : Nat) ≠ of; omega)
  | minus y hy _ => exact base _ (.minus y hy) (by show (4 : Nat) ≠ of; omega)
  | bin k y z h1 h2 hy hz iy _ =>
    by_cases hr : rnk (k : Int) = of
    · intro hD r ho
      have hk : (binE k y z).kind = (k : Int) := rfl
      have e1 : C (binE k y z) of = C y of ++ (3, sgn k, 0) :: C z (of + 1) := by
        unfold C cpw; rw [hk, if_neg (by omega), cb_bin k y z h1, hr]
        rw [show max of 2 = of by omega]; rfl
      have e2 : D (binE k y z) of = max (D y of) (D z (of + 1)) := by
        unfold D dpw; rw [hk, if_neg (by omega), dp_bin, hr]
        rw [show max of 2 = of by omega]; rfl
      rw [e2] at hD
      have hop := op_bin k h1 h2
      rw [e1, List.append_assoc, List.cons_append]
      rw [iy (by omega) _ (by
        intro o ha hb
        show opAt o (3, sgn k, 0) = none
        rw [hop o (by omega) hb, if_neg (by omega)])]
      rw [List.length_cons, more]
      have hop2 : opAt of (hd ((3, sgn k, 0) :: (C z (of + 1) ++ r))) = some k := by
        show opAt of (3, sgn k, 0) = some k
        rw [hop of (by omega) (by omega), if_pos hr]
      rw [hop2]
      simp only [List.tail_cons]
      rw [h z hz (by omega) r ho]
      simp only []
      exact more_fuel hc _ _ _ _ (by simp) (Nat.le_refl _)
    · exact base _ (.bin k y z h1 h2 hy hz) hr
theorem row_reads {of d : Nat} {part : P} (hof : of = 2 ∨ of = 3) (hc : Ctx part) (h : Reads part (of + 1) d) : Reads (row of part) of d := by
  intro x hx hD r ho
  rw [row_go hof hc h hx hD r (ho.up (by omega)), more_none (ho of (Nat.le_refl _) (by omega))]
theorem expr_reads {d : Nat} {f : P} (hc : Ctx f) (h : Reads f 4 d) : Reads (expr f) 1 d := by
  have hs : Reads (sum f) 2 d := row_reads (Or.inl rfl) (row_ctx hc) (row_reads (Or.inr rfl) hc h)
  have base : ∀ y, Wf y → rnk y.kind ≠ 1 → D y 1 ≤ d → ∀ r, Ok 1 r → expr f (C y 1 ++ r) = (some y, r) := by
    intro y hy hr hD r ho
    have hp := rnk_pos y.kind
    have e1 : C y 1 = C y 2 := by unfold C cpw; rw [if_neg (by omega), if_neg (by omega)]
    have e2 : D y 1 = D y 2 := by unfold D dpw; rw [if_neg (by omega), if_neg (by omega)]
    rw [e1]
    unfold expr
    rw [hs y hy (by rw [← e2]; exact hD) r (ho.up (by omega))]
    simp only [ho 1 (Nat.le_refl _) (by omega)]
  intro x hx
  cases hx with
  | num n hn => exact base _ (.num n hn) (by show (4 : Nat) ≠ 1; omega)
  | name t ht => exact base _ (.name t ht) (by show (4 : Nat) ≠ 1; omega)
  | minus y hy => exact base _ (.minus y hy) (by show (4 : Nat) ≠ 1; omega)
  | bin k y z h1 h2 hy hz =>
    by_cases hr : rnk (k : Int) = 1
    · intro hD r ho
      have hk : (binE k y z).kind = (k : Int) := rfl
      have e1 : C (binE k y z) 1 = C y 2 ++ (3, sgn k, 0) :: C z 2 := by
        unfold C cpw; rw [hk, if_neg (by omega), cb_bin k y z h1, hr]; rfl
      have e2 : D (binE k y z) 1 = max (D y 2) (D z 2) := by
        unfold D dpw; rw [hk, if_neg (by omega), dp_bin, hr]; rfl
      rw [e2] at hD
      have hop := op_bin k h1 h2
      rw [e1, List.append_assoc, List.cons_append]
      unfold expr
      rw [hs y hy (by omega) _ (by
        intro o ha hb
        show opAt o (3, sgn k, 0) = none
        rw [hop o (by omega) hb, if_neg (by omega)])]
      have hop2 : opAt 1 (Px.hd ((3, sgn k, 0) :: (C z 2 ++ r))) = some k := by
        show opAt 1 (3, sgn k, 0) = some k
        rw [hop 1 (by omega) (by omega), if_pos hr]
      simp only [hop2, List.tail_cons]
      rw [hs z hz (by omega) r (ho.up (by omega))]
    · exact base _ (.bin k y z h1 h2 hy hz) hr
theorem ok_shut (r : List Core) : Ok 1 ((3, [41], 0) :: r) := by
  intro of h1 h2
  show opAt of (3, [41], 0) = none
  match of, h1, h2 with
  | 1, _, _ => decide
  | 2, _, _ => decide
  | 3, _, _ => decide
theorem fac_reads : ∀ d, Reads (fac d) 4 d := by
  intro d
  induction d with
  | zero =>
    intro x hx hD r _
    cases hx with
    | num n hn => show fac 0 (cpw 1 (cb (numE n)) 4 ++ r) = _; rw [cb_num]; rfl
    | name t ht =>
      have : C (nameE t) 4 = [(1, t, 0)] := by unfold C cpw; rw [cb_name]; rfl
      rw [this, fac_zero, if_neg (by show ¬ (1 = 2); decide), if_pos ⟨rfl, ht⟩]; rfl
    | minus y hy =>
      have : D (minusE y) 4 = 1 + D y 4 := by unfold D dpw; rw [dp_minus]; rfl
      omega
    | bin k y z h1 h2 hy hz =>
      have := rnk_bin k h1 h2
      have e : D (binE k y z) 4 = 1 + dp (binE k y z) := by unfold D dpw; rw [if_pos (by show rnk (k : Int) < 4; omega)]
      omega
  | succ d ih =>
    intro x hx hD r _
    have hx' := hx
    cases hx with
    | num n hn => show fac (d + 1) (cpw 1 (cb (numE n)) 4 ++ r) = _; rw [cb_num, fac_succ]; rfl
    | name t ht =>
      have : C (nameE t) 4 = [(1, t, 0)] := by unfold C cpw; rw [cb_name]; rfl
      rw [this, fac_succ, if_neg (by show ¬ (1 = 2); decide), if_pos ⟨rfl, ht⟩]; rfl
    | minus y hy =>
      have e2 : D (minusE y) 4 = 1 + D y 4 := by unfold D dpw; rw [dp_minus]; rfl
      have e1 : C (minusE y) 4 = (3, [45], 0) :: C y 4 := by unfold C cpw; rw [cb_minus]; rfl
      rw [e1, fac_succ, List.cons_append, if_neg (by show ¬ (3 = 2); decide), if_neg (by intro c; exact absurd c.1 (by show ¬ (3 = 1); decide)), if_pos (by show isSg [45] (3, [45], 0) = true; decide)]
      unfold minus
      rw [List.tail_cons, ih y hy (by omega) r (fun of h1 h2 => by omega)]
    | bin k y z h1 h2 hy hz =>
      have hr := rnk_bin k h1 h2
      have e2 : D (binE k y z) 4 = 1 + dp (binE k y z) := by unfold D dpw; rw [if_pos (by show rnk (k : Int) < 4; omega)]
      have e1 : C (binE k y z) 4 = (3, [40], 0) :: (cb (binE k y z) ++ [(3, [41], 0)]) := by unfold C cpw; rw [if_pos (by show rnk (k : Int) < 4; omega)]
      have e3 : C (binE k y z) 1 = cb (binE k y z) := by unfold C cpw; rw [if_neg (by show ¬ rnk (k : Int) < 1; omega)]
      have e4 : D (binE k y z) 1 = dp (binE k y z) := by unfold D dpw; rw [if_neg (by show ¬ rnk (k : Int) < 1; omega)]
      rw [e1, fac_succ, List.cons_append, if_neg (by show ¬ (3 = 2); decide), if_neg (by intro c; exact absurd c.1 (by show ¬ (3 = 1); decide)), if_neg (by show ¬ (isSg [45] (3, [40], 0) = true); decide), if_pos (by show isSg [40] (3, [40], 0) = true; decide)]
      unfold paren
      rw [List.tail_cons, List.append_assoc, ← e3, show ([(3, [41], 0)] ++ r : List Core) = (3, [41], 0) :: r from rfl]
      rw [expr_reads (fac_ctx d) ih _ hx' (by omega) _ (ok_shut r)]
      simp only []
      rw [if_pos (by show isSg [41] (3, [41], 0) = true; decide)]
      rfl

/-! ### What was read can be written -/
def TokOk (t : Core) : Prop := t.1 = 2 → t.2.2 < 9223372036854775808 ∧ Lib.itoa t.2.2 = t.2.1
def cost (l : List Core) : Nat := (l.map fun t => t.2.1.length + 1).sum
theorem cost_cons (t : Core) (l : List Core) : cost (t :: l) = t.2.1.length + 1 + cost l := by simp [cost]
def Yields (part : P) (l d : Nat) : Prop := ∀ u x m, (∀ t ∈ u, TokOk t) → part u = (some x, m) → Wf x ∧ D x l ≤ d ∧ (T x l).length + 1 + cost m ≤ cost u ∧ x.size + m.length ≤ u.length ∧ (∀ t ∈ m, TokOk t)
theorem size_bin (k : Nat) (y z : Ex) : (binE k y z).size = 1 + (y.size + z.size) := by unfold binE; rw [Ex.size_eq]; simp [Ex.of, Ex.sizes]
theorem size_minus (y : Ex) : (minusE y).size = 1 + y.size := by unfold minusE; rw [Ex.size_eq]; simp [Ex.of, Ex.sizes]
theorem tail_ok {u : List Core} (h : ∀ t ∈ u, TokOk t) : ∀ t ∈ u.tail, TokOk t := fun t ht => h t (List.mem_of_mem_tail ht)

theorem more_yields {of d : Nat} {part : P} (hof : of = 2 ∨ of = 3) (h : Yields part (of + 1) d) : ∀ f e u x m, (∀ t ∈ u, TokOk t) → Wf e → D e of ≤ d → more of part f e u = (some x, m) →
    Wf x ∧ D x of ≤ d ∧ (T x of).length + cost m ≤ (T e of).length + cost u ∧ x.size + m.length ≤ e.size + u.length ∧ (∀ t ∈ m, TokOk t) := by
  intro f
  induction f with
  | zero =>
    intro e u x m hu he hD hm
    rw [more] at hm
    simp at hm
    obtain ⟨rfl, rfl⟩ := hm
    exact ⟨he, hD, by omega, by omega, hu⟩
  | succ f ih =>
    intro e u x m hu he hD hm
    rw [more] at hm
    cases hk : opAt of (hd u) with
    | none =>
      rw [hk] at hm
      simp at hm
      obtain ⟨rfl, rfl⟩ := hm
      exact ⟨he, hD, by omega, by omega, hu⟩
    | some k =>
      rw [hk] at hm
      obtain ⟨k4, k10, hr, h3, hs⟩ := opAt_kind hk
      have hl : u = hd u :: u.tail := hd_tail (by rw [h3]; decide)
      simp only [] at hm
      cases hp : part u.tail with
      | mk o m1 =>
        rw [hp] at hm
        cases o with
        | none => simp at hm
        | some r =>
          simp only [] at hm
          obtain ⟨w1, d1, c1, s1, o1⟩ := h _ _ _ (tail_ok hu) hp
          have e2 : D (binE k e r) of = max (D e of) (D r (of + 1)) := by
            unfold D dpw; rw [show (binE k e r).kind = (k : Int) from rfl, if_neg (by omega), dp_bin, hr, show max of 2 = of by omega]; rfl
          have e1 : T (binE k e r) of = T e of ++ 32 :: (sgn k ++ 32 :: T r (of + 1)) := by
            unfold T tpw; rw [show (binE k e r).kind = (k : Int) from rfl, if_neg (by omega), tb_bin k e r k4, hr, show max of 2 = of by omega]; rfl
          obtain ⟨w2, d2, c2, s2, o2⟩ := ih _ _ _ _ o1 (.bin k e r k4 k10 he w1) (by rw [e2]; omega) hm
          have hc : cost u = (sgn (k : Int)).length + 1 + cost u.tail := by
            conv => lhs; rw [hl]
            rw [cost_cons, hs]
          have hll : u.length = u.tail.length + 1 := by conv => lhs; rw [hl]
                                                        simp
          have e3 : (T (binE k e r) of).length = (T e of).length + 1 + (sgn (k : Int)).length + 1 + (T r (of + 1)).length := by rw [e1]; simp only [List.length_append, List.length_cons]; omega
          have hz := size_bin k e r
          exact ⟨w2, d2, by omega, by omega, o2⟩
theorem T_low (x : Ex) {l l' : Nat} (h : l ≤ l') : (T x l).length ≤ (T x l').length ∧ (T x l').length ≤ (T x l).length + 2 ∧ D x l ≤ D x l' ∧ D x l' ≤ D x l + 1 := by
  unfold T D tpw dpw
  by_cases c1 : rnk x.kind < l
  · rw [if_pos c1, if_pos (by omega), if_pos c1, if_pos (by omega)]; omega
  · by_cases c2 : rnk x.kind < l'
    · rw [if_neg c1, if_pos c2, if_neg c1, if_pos c2]; simp only [List.length_cons, List.length_append, List.length_nil]; omega
    · rw [if_neg c1, if_neg c2, if_neg c1, if_neg c2]; omega
theorem row_yields {of d : Nat} {part : P} (hof : of = 2 ∨ of = 3) (h : Yields part (of + 1) d) : Yields (row of part) of d := by
  intro u x m hu he
  unfold row at he
  cases hp : part u with
  | mk o m1 =>
    rw [hp] at he
    cases o with
    | none => simp at he
    | some e =>
      simp only [] at he
      obtain ⟨w1, d1, c1, s1, o1⟩ := h _ _ _ hu hp
      have hlow := T_low e (Nat.le_succ of)
      obtain ⟨w2, d2, c2, s2, o2⟩ := more_yields hof h _ _ _ _ _ o1 w1 (by have := hlow.2.2.1; simp only [Nat.succ_eq_add_one] at this; omega) he
      have := hlow.1
      simp only [Nat.succ_eq_add_one] at this
      exact ⟨w2, d2, by omega, by omega, o2⟩
theorem expr_yields {d : Nat} {f : P} (h : Yields f 4 d) : Yields (expr f) 1 d := by
  have hs : Yields (sum f) 2 d := row_yields (Or.inl rfl) (row_yields (Or.inr rfl) h)
  intro u x m hu he
  unfold expr at he
  cases hp : sum f u with
  | mk o m1 =>
    rw [hp] at he
    cases o with
    | none => simp at he
    | some e =>
      simp only [] at he
      obtain ⟨w1, d1, c1, s1, o1⟩ := hs _ _ _ hu hp
      cases hk : opAt 1 (hd m1) with
      | none =>
        rw [hk] at he
        simp at he
        obtain ⟨rfl, rfl⟩ := he
        have hlow := T_low e (by decide : 1 ≤ 2)
        exact ⟨w1, by omega, by omega, s1, o1⟩
      | some k =>
        rw [hk] at he
        obtain ⟨k4, k10, hr, h3, hs'⟩ := opAt_kind hk
        have hl : m1 = hd m1 :: m1.tail := hd_tail (by rw [h3]; decide)
        simp only [] at he
        cases hq : sum f m1.tail with
        | mk o m2 =>
          rw [hq] at he
          cases o with
          | none => simp at he
          | some r =>
            simp at he
            obtain ⟨rfl, rfl⟩ := he
            obtain ⟨w2, d2, c2, s2, o2⟩ := hs _ _ _ (tail_ok o1) hq
            have e2 : D (binE k e r) 1 = max (D e 2) (D r 2) := by
              unfold D dpw; rw [show (binE k e r).kind = (k : Int) from rfl, if_neg (by omega), dp_bin, hr]; rfl
            have e1 : T (binE k e r) 1 = T e 2 ++ 32 :: (sgn k ++ 32 :: T r 2) := by
              unfold T tpw; rw [show (binE k e r).kind = (k : Int) from rfl, if_neg (by omega), tb_bin k e r k4, hr]; rfl
            have hc : cost m1 = (sgn (k : Int)).length + 1 + cost m1.tail := by
              conv => lhs; rw [hl]
              rw [cost_cons, hs']
            have hll : m1.length = m1.tail.length + 1 := by conv => lhs; rw [hl]
                                                            simp
            have e3 : (T (binE k e r) 1).length = (T e 2).length + 1 + (sgn (k : Int)).length + 1 + (T r 2).length := by rw [e1]; simp only [List.length_append, List.length_cons]; omega
            have hz := size_bin k e r
            exact ⟨.bin k e r k4 k10 w1 w2, by rw [e2]; omega, by omega, by omega, o2⟩
theorem fac_yields : ∀ d, Yields (fac d) 4 d := by
  have leaf : ∀ d u x m, (∀ t ∈ u, TokOk t) → ((hd u).1 = 2 ∧ x = numE (hd u).2.2 ∧ m = u.tail) ∨ (((hd u).1 = 1 ∧ isNm (hd u).2.1 = true) ∧ x = nameE (hd u).2.1 ∧ m = u.tail) → Wf x ∧ D x 4 ≤ d ∧ (T x 4).length + 1 + cost m ≤ cost u ∧ x.size + m.length ≤ u.length ∧ (∀ t ∈ m, TokOk t) := by
    intro d u x m hu h
    rcases h with ⟨h2, rfl, rfl⟩ | ⟨⟨h1, hn⟩, rfl, rfl⟩
    · have hl : u = hd u :: u.tail := hd_tail (by rw [h2]; decide)
      have hok := hu (hd u) (by rw [hl]; exact List.mem_cons_self ..) h2
      have hll : u.length = u.tail.length + 1 := by conv => lhs; rw [hl]
                                                    simp
      have hc : cost u = (hd u).2.1.length + 1 + cost u.tail := by conv => lhs; rw [hl, cost_cons]
      have e1 : T (numE (hd u).2.2) 4 = Lib.itoa ((hd u).2.2 : Nat) := by unfold T tpw; rw [tb_num]; rfl
      have e2 : D (numE (hd u).2.2) 4 = 0 := by unfold D dpw; rw [dp_num]; rfl
      have e3 : (numE (hd u).2.2).size = 1 := by unfold numE; rw [Ex.size_eq]; simp [Ex.of, Ex.sizes]
      exact ⟨.num _ hok.1, by omega, by rw [e1, hok.2]; omega, by omega, tail_ok hu⟩
    · have hl : u = hd u :: u.tail := hd_tail (by rw [h1]; decide)
      have hll : u.length = u.tail.length + 1 := by conv => lhs; rw [hl]
                                                    simp
      have hc : cost u = (hd u).2.1.length + 1 + cost u.tail := by conv => lhs; rw [hl, cost_cons]
      have e1 : T (nameE (hd u).2.1) 4 = (hd u).2.1 := by unfold T tpw; rw [tb_name]; rfl
      have e2 : D (nameE (hd u).2.1) 4 = 0 := by unfold D dpw; rw [dp_name]; rfl
      have e3 : (nameE (hd u).2.1).size = 1 := by unfold nameE; rw [Ex.size_eq]; simp [Ex.of, Ex.sizes]
      exact ⟨.name _ hn, by omega, by rw [e1]; omega, by omega, tail_ok hu⟩
  intro d
  induction d with
  | zero =>
    intro u x m hu he
    rw [fac_zero] at he
    split at he
    · rename_i h2; simp at he; exact leaf 0 u x m hu (Or.inl ⟨h2, he.1.symm, he.2.symm⟩)
    · split at he
      · rename_i h1; simp at he; exact leaf 0 u x m hu (Or.inr ⟨h1, he.1.symm, he.2.symm⟩)
      · simp at he
  | succ d ih =>
    intro u x m hu he
    rw [fac_succ] at he
    split at he
    · rename_i h2; simp at he; exact leaf (d + 1) u x m hu (Or.inl ⟨h2, he.1.symm, he.2.symm⟩)
    · split at he
      · rename_i h1; simp at he; exact leaf (d + 1) u x m hu (Or.inr ⟨h1, he.1.symm, he.2.symm⟩)
      · split at he
        · rename_i h3
          have h33 := isSg_hd h3
          have hl : u = hd u :: u.tail := hd_tail (by rw [h33]; decide)
          have hll : u.length = u.tail.length + 1 := by conv => lhs; rw [hl]
                                                        simp
          have hc : cost u = (hd u).2.1.length + 1 + cost u.tail := by conv => lhs; rw [hl, cost_cons]
          have ht : (hd u).2.1.length = 1 := by simp [isSg] at h3; rw [h3.2]; rfl
          unfold minus at he
          cases hp : fac d u.tail with
          | mk o m1 =>
            rw [hp] at he
            cases o with
            | none => simp at he
            | some e =>
              simp at he
              obtain ⟨rfl, rfl⟩ := he
              obtain ⟨w1, d1, c1, s1, o1⟩ := ih _ _ _ (tail_ok hu) hp
              have e1 : T (minusE e) 4 = 45 :: T e 4 := by unfold T tpw; rw [tb_minus]; rfl
              have e2 : D (minusE e) 4 = 1 + D e 4 := by unfold D dpw; rw [dp_minus]; rfl
              have e3 := size_minus e
              have e4 : (T (minusE e) 4).length = 1 + (T e 4).length := by rw [e1, List.length_cons]; omega
              exact ⟨.minus e w1, by omega, by omega, by omega, o1⟩
        · split at he
          · rename_i h5
            have h55 := isSg_hd h5
            have hl : u = hd u :: u.tail := hd_tail (by rw [h55]; decide)
            have hll : u.length = u.tail.length + 1 := by conv => lhs; rw [hl]
                                                          simp
            have hc : cost u = (hd u).2.1.length + 1 + cost u.tail := by conv => lhs; rw [hl, cost_cons]
            have ht : (hd u).2.1.length = 1 := by simp [isSg] at h5; rw [h5.2]; rfl
            unfold paren at he
            cases hp : expr (fac d) u.tail with
            | mk o m1 =>
              rw [hp] at he
              cases o with
              | none => simp at he
              | some e =>
                simp only [] at he
                split at he
                · rename_i hcl
                  simp at he
                  obtain ⟨rfl, rfl⟩ := he
                  obtain ⟨w1, d1, c1, s1, o1⟩ := expr_yields ih _ _ _ (tail_ok hu) hp
                  have hl1 : m1 = hd m1 :: m1.tail := hd_tail (by rw [isSg_hd hcl]; decide)
                  have hll1 : m1.length = m1.tail.length + 1 := by conv => lhs; rw [hl1]
                                                                   simp
                  have hc1 : cost m1 = (hd m1).2.1.length + 1 + cost m1.tail := by conv => lhs; rw [hl1, cost_cons]
                  have ht1 : (hd m1).2.1.length = 1 := by simp [isSg] at hcl; rw [hcl.2]; rfl
                  have hlow := T_low e (by decide : 1 ≤ 4)
                  exact ⟨w1, by omega, by omega, by omega, tail_ok o1⟩
                · simp at he
          · simp at he
end Px
end Go.Proofs.YtkobdephobaopaaGreatDoor

namespace Go.Proofs.YtkobdephobaopaaGreatDoor
theorem Ex.same_iff : ∀ a b : Ex, Ex.same a b = true → a = b := by
  have lists : ∀ l : List Ex, (∀ x ∈ l, ∀ b, Ex.same x b = true → x = b) → ∀ m, Ex.sames l m = true → l = m := by
    intro l
    induction l with
    | nil => intro _ m h; cases m with
      | nil => rfl
      | cons b m => rw [Ex.sames] at h; cases h
    | cons a l ih =>
      intro hl m h
      cases m with
      | nil => rw [Ex.sames] at h; cases h
      | cons b m =>
        rw [Ex.sames, Bool.and_eq_true] at h
        rw [hl a (List.mem_cons_self ..) b h.1, ih (fun x hx => hl x (List.mem_cons_of_mem _ hx)) m h.2]
  refine Ex.ind fun a ih b h => ?_
  rw [Ex.same_eq] at h
  simp only [Bool.and_eq_true, beq_iff_eq] at h
  obtain ⟨h1, h2, h3, h4⟩ := h
  obtain ⟨k, n, s, l⟩ := a
  obtain ⟨k', n', s', l'⟩ := b
  have e1 : k = k' := h1
  have e2 : n = n' := h2
  have e3 : s = s' := by
    have h3' : s.toList = s'.toList := h3
    rw [ByteArray.toList_eq, ByteArray.toList_eq] at h3'
    cases s; cases s'
    simp only [ByteArray.mk.injEq]
    exact Array.toList_inj.1 h3'
  have e4 : l = l' := lists l ih l' h4
  rw [e1, e2, e3, e4]
namespace Px
open Lx (Core)

/-! ### Tokens, and how they are read -/
theorem toks_cr {l : List UInt8} {ts : List Lx.Tk} (h : Lx.toks l = .good ts) : l.length ≤ 6000 ∧ Lx.cr l = some (ts.map Lx.Tk.core) := by
  unfold Lx.toks at h
  split at h
  · cases h
  · exact ⟨by omega, by unfold Lx.cr; rw [h]; rfl⟩
theorem cr_toks {l : List UInt8} {cs : List Core} (hl : l.length ≤ 6000) (h : Lx.cr l = some cs) : ∃ ts, Lx.toks l = .good ts ∧ ts.map Lx.Tk.core = cs := by
  unfold Lx.cr at h
  unfold Lx.toks
  rw [if_neg (by omega)]
  cases hr : Lx.run (l.length + 1) 0 l with
  | bad p => rw [hr] at h; cases h
  | good ts => rw [hr] at h; cases h; exact ⟨ts, rfl, rfl⟩
theorem one_ok {c : UInt8} {r : List UInt8} {k len n : Nat} (h : Lx.one (c :: r) = some (k, len, n)) : TokOk (k, (c :: r).take len, n) := by
  intro h2
  have h2 : k = 2 := h2
  subst h2
  rw [Lx.one_cons] at h
  split at h
  · split at h
    · simp at h
    · cases h
  · split at h
    · rename_i hd
      cases hn : Lx.num (c :: r.takeWhile Lx.digit) with
      | none => rw [hn] at h; cases h
      | some m =>
        rw [hn] at h
        simp at h
        obtain ⟨rfl, rfl⟩ := h
        rw [Lx.take_one]
        refine num_back (by simp) ?_ hn
        intro x hx
        rcases List.mem_cons.1 hx with rfl | hx
        · exact hd
        · exact Lx.takeWhile_all _ _ x hx
    · split at h
      · simp at h
      · split at h
        · simp at h
        · cases h
theorem run_ok (f : Nat) : ∀ (p : Nat) (l : List UInt8) (ts : List Lx.Tk), Lx.run f p l = .good ts → ∀ t ∈ ts.map Lx.Tk.core, TokOk t := by
  induction f with
  | zero => intro p l ts h; cases h
  | succ f ih =>
    intro p l ts h
    cases l with
    | nil =>
      simp [Lx.run] at h
      subst h
      intro t ht
      simp [Lx.Tk.core] at ht
      subst ht
      intro e; cases e
    | cons c r =>
      rw [Lx.run_cons] at h
      split at h
      · exact ih _ _ _ h
      · split at h
        · exact ih _ _ _ h
        · cases ho : Lx.one (c :: r) with
          | none => rw [ho] at h; cases h
          | some x =>
            obtain ⟨k, len, n⟩ := x
            rw [ho] at h
            simp only [] at h
            cases hr : Lx.run f (p + len) ((c :: r).drop len) with
            | bad q => rw [hr] at h; cases h
            | good us =>
              rw [hr] at h
              simp only [Lx.Out.pre, Lx.Out.good.injEq] at h
              subst h
              intro t ht
              simp only [List.map_append, List.map_cons, List.map_nil, List.mem_append, List.mem_singleton] at ht
              rcases ht with rfl | ht
              · exact one_ok ho
              · exact ih _ _ _ hr t ht
theorem toks_ok {l : List UInt8} {ts : List Lx.Tk} (h : Lx.toks l = .good ts) : ∀ t ∈ ts.map Lx.Tk.core, TokOk t := by
  unfold Lx.toks at h
  split at h
  · cases h
  · exact run_ok _ _ _ _ h
/-- What a reading of a text's tokens is. -/
theorem read_good {l : List UInt8} {ts : List Lx.Tk} (h : Lx.toks l = .good ts) {x : Ex} {m : List Core} (hr : read (ts.map Lx.Tk.core) = (some x, m)) : Wf x ∧ D x 1 ≤ 8 ∧ (T x 1).length + 1 + cost m ≤ cost (ts.map Lx.Tk.core) ∧ x.size ≤ 6001 := by
  obtain ⟨h1, h2, h3, h4, -⟩ := expr_yields (fac_yields 8) _ _ _ (toks_ok h) hr
  have := toks_count _ _ h
  rw [List.length_map] at h4
  exact ⟨h1, h2, h3, by omega⟩
theorem Wf.fit {x : Ex} (h : Wf x) : x.fit := by
  induction h with
  | num n hn => rw [Ex.fit_eq]; exact ⟨⟨by show _ ≤ (n : Int); omega, by show (n : Int) ≤ _; omega, by show (0 : Nat) ≤ 12; decide⟩, trivial⟩
  | name t ht =>
    rw [Ex.fit_eq]
    refine ⟨⟨by show _ ≤ (0 : Int); decide, by show (0 : Int) ≤ _; decide, ?_⟩, trivial⟩
    show (ba t).size ≤ 12
    unfold isNm at ht
    simp only [Bool.and_eq_true] at ht
    cases t with
    | nil => simp [ba, ByteArray.size]
    | cons c r =>
      have := ht.1
      simp only [Lx.isWord, Bool.and_eq_true, decide_eq_true_eq] at this
      simp [ba, ByteArray.size]; omega
  | minus y _ ih => rw [Ex.fit_eq]; exact ⟨⟨by show _ ≤ (0 : Int); decide, by show (0 : Int) ≤ _; decide, by show (0 : Nat) ≤ 12; decide⟩, by show Ex.fits [y]; rw [Ex.fits]; exact ⟨ih, trivial⟩⟩
  | bin k y z _ _ _ _ iy iz => rw [Ex.fit_eq]; exact ⟨⟨by show _ ≤ (0 : Int); decide, by show (0 : Int) ≤ _; decide, by show (0 : Nat) ≤ 12; decide⟩, by show Ex.fits [y, z]; rw [Ex.fits, Ex.fits]; exact ⟨iy, iz, trivial⟩⟩
theorem ok_end : Ok 1 [(4, [], 0)] := by
  intro of h1 h2
  match of, h1, h2 with
  | 1, _, _ => decide
  | 2, _, _ => decide
  | 3, _, _ => decide
theorem text_ne {x : Ex} (h : Wf x) (l : Nat) : T x l ≠ [] := by
  have : tb x ≠ [] := by
    cases h with
    | num n hn => rw [tb_num, Lib.itoa_nonneg]; exact (dec_facts n).1
    | name t ht => rw [tb_name]; rintro rfl; cases ht
    | minus y hy => rw [tb_minus]; simp
    | bin k y z h1 h2 hy hz => rw [tb_bin k y z h1]; simp
  unfold T tpw
  split
  · simp
  · exact this
/-- THE STAGE'S THEOREM, said plainly. -/
theorem written {x : Ex} (h : Wf x) (hd : D x 1 ≤ 8) (hl : (T x 1).length ≤ 6000) : wr x [] 1 = T x 1 ∧ print x = T x 1 ∧ ∃ ts, Lx.toks (T x 1) = .good ts ∧ ts.map Lx.Tk.core = C x 1 ++ [(4, [], 0)] ∧ read (ts.map Lx.Tk.core) = (some x, [(4, [], 0)]) := by
  have hw : wr x [] 1 = T x 1 := by rw [wr_text h [] 1 (by simpa using hl)]; rfl
  have hc := cr_T h 1 [] stop_nil
  rw [List.append_nil, Lx.cr_nil] at hc
  obtain ⟨ts, h1, h2⟩ := cr_toks hl hc
  have hr : read (ts.map Lx.Tk.core) = (some x, [(4, [], 0)]) := by
    rw [h2]
    exact expr_reads (fac_ctx 8) (fac_reads 8) x h hd _ ok_end
  refine ⟨hw, ?_, ts, h1, h2, hr⟩
  rw [print_if (by rw [hw]; exact h1) hr, if_pos ⟨rfl, Ex.same_refl x⟩, hw]
/-- Cut off, it is too long. -/
theorem wb_cut {x : Ex} (h : Wf x) : ∀ acc, wb x acc = acc ++ tb x ∨ 6000 < (wb x acc).length := by
  have wrap_ok : ∀ (y : Ex), (∀ acc, wb y acc = acc ++ tb y ∨ 6000 < (wb y acc).length) → ∀ acc l, wr y acc l = acc ++ T y l ∨ 6000 < (wr y acc l).length := by
    intro y ih acc l
    unfold wr wrap T tpw
    split
    · rename_i h6; right; exact h6
    · split
      · rcases ih (acc ++ [40]) with e | e
        · left; rw [e]; simp
        · right; simp; omega
      · exact ih acc
  induction h with
  | num n hn => intro acc; left; rw [tb_num]; exact wb_num ..
  | name t ht => intro acc; left; rw [tb_name]; unfold nameE; rw [wb_name]; simp [ba]
  | minus y _ ih =>
    intro acc
    rw [tb_minus]
    unfold minusE
    rw [wb_minus]
    rcases wrap_ok y ih (acc ++ [45]) 4 with e | e
    · left; rw [e]; simp
    · right; exact e
  | bin k y z h1 h2 _ _ iy iz =>
    intro acc
    rw [tb_bin k y z h1]
    unfold binE
    rw [wb_two _ _ _ _ _ _ (sgn_bin k h1 h2) (k12 h1).1 (k12 h1).2]
    rcases wrap_ok y iy acc (max (rnk k) 2) with e | e
    · rcases wrap_ok z iz (wr y acc (max (rnk k) 2) ++ [32] ++ sgn k ++ [32]) (rnk k + 1) with e2 | e2
      · left; rw [e2, e]; simp
      · right; exact e2
    · right
      have e3 : wr z (wr y acc (max (rnk k) 2) ++ [32] ++ sgn k ++ [32]) (rnk k + 1) = wr y acc (max (rnk k) 2) ++ [32] ++ sgn k ++ [32] := by
        unfold wr wrap
        rw [if_pos (by simp only [List.length_append, List.length_cons, List.length_nil]; unfold wr wrap at e; omega)]
      rw [e3]
      simp only [List.length_append, List.length_cons, List.length_nil]; omega
theorem wr_cut {x : Ex} (h : Wf x) (l : Nat) : wr x [] l = T x l ∨ 6000 < (wr x [] l).length := by
  unfold wr wrap T tpw
  split
  · rename_i h6; simp at h6
  · split
    · rcases wb_cut h ([] ++ [40]) with e | e
      · left; rw [e]; simp
      · right; simp only [List.length_append, List.length_cons, List.length_nil]; omega
    · rcases wb_cut h [] with e | e
      · left; rw [e]; rfl
      · right; exact e
/-- What is printed at all. -/
theorem print_form {x : Ex} (h : print x ≠ []) : Wf x ∧ D x 1 ≤ 8 ∧ print x = T x 1 ∧ (T x 1).length ≤ 6000 := by
  obtain ⟨e, ts, y, m, h1, h2, -, h4⟩ := print_some h
  obtain ⟨w, d, -, -⟩ := read_good h1 h2
  have hxy := Ex.same_iff y x h4
  subst hxy
  have hl := (toks_cr h1).1
  rcases wr_cut w 1 with c | c
  · rw [c] at hl
    exact ⟨w, d, by rw [e, c], hl⟩
  · omega

/-! ### Parentheses -/
theorem view_shut (r : List Core) : View [(4, [], 0)] ((3, [41], 0) :: r) := by
  intro of
  show opAt of (3, [41], 0) = none
  unfold opAt
  rw [if_pos rfl, List.find?_eq_none]
  intro k hk
  simp only [List.mem_cons, List.not_mem_nil, or_false] at hk
  rcases hk with rfl | rfl | rfl | rfl | rfl | rfl | rfl <;> simp <;> intro _ <;> decide
/-- What parentheses about it are read as, if they are. -/
theorem fac_paren {x : Ex} (h : Wf x) (hd : D x 1 ≤ 8) {r : List Core} {y : Ex} {n : List Core} (hy : fac 8 ((3, [40], 0) :: (C x 1 ++ (3, [41], 0) :: r)) = (some y, n)) : y = x ∧ n = r :=
  paren_same (expr_reads (fac_ctx 8) (fac_reads 8) x h hd _ ok_end) (C x 1) rfl (view_shut r) hy
end Px
end Go.Proofs.YtkobdephobaopaaGreatDoor
