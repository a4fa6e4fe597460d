/- How tokens are read as an expression, said plainly; what one reading tells of others. No program, no condition. -/
import Derived.Test.YtbjdnniklcmcbaaDoorLxCov
import Derived.Test.YtbjdnniklcmcbaaDoorTr
namespace Go.Proofs.YtbjdnniklcmcbaaDoor
namespace Px
open Lx (Core)

def ba (l : List UInt8) : ByteArray := ⟨l.toArray⟩
abbrev e0 : ByteArray := ⟨#[]⟩
def numE (n : Nat) : Ex := .mk 1 n e0 []
def nameE (t : List UInt8) : Ex := .mk 2 0 (ba t) []
def minusE (e : Ex) : Ex := .mk 3 0 e0 [e]
def binE (k : Nat) (a b : Ex) : Ex := .mk k 0 e0 [a, b]

def rnk (k : Int) : Nat := if k = 9 ∨ k = 10 then 1 else if k = 4 ∨ k = 5 then 2 else if k = 6 ∨ k = 7 ∨ k = 8 then 3 else 4
def sgn (k : Int) : List UInt8 := if k = 4 then [43] else if k = 5 then [45] else if k = 6 then [42] else if k = 7 then [47] else if k = 8 then [37] else if k = 9 then [60] else if k = 10 then [61, 61] else []

def kws : List (List UInt8) := [[118, 97, 114], [119, 105, 100, 101], [97, 116, 111, 109, 105, 99], [108, 111, 99, 97, 108], [109, 117, 116, 101, 120], [99, 104, 97, 110],
  [103, 111], [108, 111, 99, 107], [117, 110, 108, 111, 99, 107], [115, 101, 110, 100], [114, 101, 99, 118], [112, 114, 105, 110, 116], [105, 102], [101, 108, 115, 101], [114, 101, 112, 101, 97, 116], [103, 111, 116, 111], [108, 97, 98, 101, 108]]
def isNm (t : List UInt8) : Bool := Lx.isWord t && !(kws.any (t == ·))

/-- The operator that the token is, if it is one of that rank. -/
def opAt (of : Nat) (t : Core) : Option Nat := if t.1 = 3 then [4, 5, 6, 7, 8, 9, 10].find? (fun k => (rnk (k : Nat) == of) && (t.2.1 == sgn (k : Nat))) else none
def isSg (x : List UInt8) (t : Core) : Bool := (t.1 == 3) && (t.2.1 == x)
def hd (l : List Core) : Core := l.headD (4, [], 0)

abbrev P := List Core → Option Ex × List Core

def more (of : Nat) (part : P) : Nat → Ex → P
  | 0, e, l => (some e, l)
  | f + 1, e, l => match opAt of (hd l) with
    | none => (some e, l)
    | some k => match part l.tail with
      | (none, m) => (none, m)
      | (some r, m) => more of part f (binE k e r) m
def row (of : Nat) (part : P) : P := fun l => match part l with
  | (none, m) => (none, m)
  | (some e, m) => more of part m.length e m
def sum (f : P) : P := row 2 (row 3 f)
def expr (f : P) : P := fun l => match sum f l with
  | (none, m) => (none, m)
  | (some e, m) => match opAt 1 (hd m) with
    | none => (some e, m)
    | some k => match sum f m.tail with
      | (none, m') => (none, m')
      | (some r, m') => (some (binE k e r), m')
def minus (f : P) : P := fun l => match f l with
  | (none, m) => (none, m)
  | (some e, m) => (some (minusE e), m)
def paren (f : P) : P := fun l => match expr f l with
  | (none, m) => (none, m)
  | (some e, m) => if isSg [41] (hd m) then (some e, m.tail) else (none, m)
def fac : Nat → P
  | d, l => if (hd l).1 = 2 then (some (numE (hd l).2.2), l.tail)
    else if (hd l).1 = 1 ∧ isNm (hd l).2.1 = true then (some (nameE (hd l).2.1), l.tail)
    else match d with
    | 0 => (none, l)
    | d + 1 => if isSg [45] (hd l) then minus (fac d) l.tail else if isSg [40] (hd l) then paren (fac d) l.tail else (none, l)

theorem fac_zero (l : List Core) : fac 0 l = if (hd l).1 = 2 then (some (numE (hd l).2.2), l.tail) else if (hd l).1 = 1 ∧ isNm (hd l).2.1 = true then (some (nameE (hd l).2.1), l.tail) else (none, l) := by rw [fac]
theorem fac_succ (d : Nat) (l : List Core) : fac (d + 1) l = if (hd l).1 = 2 then (some (numE (hd l).2.2), l.tail) else if (hd l).1 = 1 ∧ isNm (hd l).2.1 = true then (some (nameE (hd l).2.1), l.tail) else
   if isSg [45] (hd l) then minus (fac d) l.tail else if isSg [40] (hd l) then paren (fac d) l.tail else (none, l) := by rw [fac]

/-! ### Where a reading ends -/
theorem hd_tail {l : List Core} (h : (hd l).1 ≠ 4) : l = hd l :: l.tail := by
  cases l with
  | nil => exact absurd rfl h
  | cons a l => rfl
theorem opAt_hd {of : Nat} {l : List Core} {k : Nat} (h : opAt of (hd l) = some k) : (hd l).1 = 3 := by
  unfold opAt at h
  split at h
  · assumption
  · cases h
theorem isSg_hd {x : List UInt8} {l : List Core} (h : isSg x (hd l) = true) : (hd l).1 = 3 := by
  simp [isSg] at h; exact h.1

/-- What is left is the end of what there was. -/
def Suf (part : P) : Prop := ∀ l, (part l).2 <:+ l
theorem suf_tail (l : List Core) : l.tail <:+ l := List.tail_suffix l
theorem more_suf {of : Nat} {part : P} (h : Suf part) : ∀ f e l, (more of part f e l).2 <:+ l := by
  intro f
  induction f with
  | zero => intro e l; exact List.suffix_refl _
  | succ f ih =>
    intro e l
    rw [more]
    cases opAt of (hd l) with
    | none => exact List.suffix_refl _
    | some k =>
      have := h l.tail
      cases hp : part l.tail with
      | mk o m =>
        rw [hp] at this
        cases o with
        | none => exact this.trans (suf_tail l)
        | some r => exact (ih _ m).trans (this.trans (suf_tail l))
theorem row_suf {of : Nat} {part : P} (h : Suf part) : Suf (row of part) := by
  intro l
  have := h l
  unfold row
  cases hp : part l with
  | mk o m =>
    rw [hp] at this
    cases o with
    | none => exact this
    | some e => exact (more_suf h _ _ _).trans this
theorem expr_suf {f : P} (h : Suf f) : Suf (expr f) := by
  have hs : Suf (sum f) := row_suf (row_suf h)
  intro l
  have h1 := hs l
  unfold expr
  cases hp : sum f l with
  | mk o m =>
    rw [hp] at h1
    cases o with
    | none => exact h1
    | some e =>
      cases hk : opAt 1 (hd m) with
      | none => simp only [hk]; exact h1
      | some k =>
        simp only [hk]
        have h2 := hs m.tail
        cases hq : sum f m.tail with
        | mk o m' =>
          rw [hq] at h2
          cases o with
          | none => exact h2.trans ((suf_tail m).trans h1)
          | some r => exact h2.trans ((suf_tail m).trans h1)
theorem minus_suf {f : P} (h : Suf f) : Suf (minus f) := by
  intro l
  have h1 := h l
  unfold minus
  cases hp : f l with
  | mk o m => rw [hp] at h1; cases o <;> exact h1
theorem paren_suf {f : P} (h : Suf f) : Suf (paren f) := by
  intro l
  have h1 := expr_suf h l
  unfold paren
  cases hp : expr f l with
  | mk o m =>
    rw [hp] at h1
    cases o with
    | none => exact h1
    | some e =>
      simp only []
      split
      · exact (suf_tail m).trans h1
      · exact h1
theorem fac_suf : ∀ d, Suf (fac d) := by
  intro d
  induction d with
  | zero =>
    intro l
    rw [fac_zero]
    split
    · exact suf_tail l
    · split
      · exact suf_tail l
      · exact List.suffix_refl _
  | succ d ih =>
    intro l
    rw [fac_succ]
    split
    · exact suf_tail l
    · split
      · exact suf_tail l
      · split
        · exact (minus_suf ih _).trans (suf_tail l)
        · split
          · exact (paren_suf ih _).trans (suf_tail l)
          · exact List.suffix_refl _

/-! ### What a reading needs: what it has read, and which operator follows -/
/-- The same operator follows, or none. -/
def View (m m' : List Core) : Prop := ∀ of, opAt of (hd m') = opAt of (hd m)
theorem View.refl (m : List Core) : View m m := fun _ => rfl
theorem View.app (p : List Core) {m m' : List Core} (h : View m m') : View (p ++ m) (p ++ m') := by
  cases p with
  | nil => exact h
  | cons a p => intro of; rfl
/-- A reading that is one has read something, and reads it wherever it stands. -/
def Ctx (part : P) : Prop := ∀ l x m, part l = (some x, m) → ∃ p, l = p ++ m ∧ p ≠ [] ∧ ∀ m', View m m' → part (p ++ m') = (some x, m')

theorem more_none {of : Nat} {part : P} {f : Nat} {e : Ex} {l : List Core} (h : opAt of (hd l) = none) : more of part f e l = (some e, l) := by
  cases f with
  | zero => rfl
  | succ f => rw [more, h]

theorem more_ctx {of : Nat} {part : P} (h : Ctx part) : ∀ f e l x m, l.length ≤ f → more of part f e l = (some x, m) →
    ∃ p, l = p ++ m ∧ ∀ m' g, (p ++ m').length ≤ g → View m m' → more of part g e (p ++ m') = (some x, m') := by
  intro f
  induction f with
  | zero =>
    intro e l x m hf he
    rw [more] at he
    cases l with
    | cons a l => simp at hf
    | nil =>
      simp at he
      obtain ⟨rfl, rfl⟩ := he
      refine ⟨[], rfl, fun m' g _ hv => ?_⟩
      exact more_none (hv of)
  | succ f ih =>
    intro e l x m hf he
    rw [more] at he
    cases hk : opAt of (hd l) with
    | none =>
      rw [hk] at he
      simp at he
      obtain ⟨rfl, rfl⟩ := he
      refine ⟨[], rfl, fun m' g _ hv => ?_⟩
      exact more_none ((hv of).trans hk)
    | some k =>
      rw [hk] at he
      have hl : l = hd l :: l.tail := hd_tail (by rw [opAt_hd hk]; decide)
      simp only [] at he
      cases hp : part l.tail with
      | mk o m1 =>
        rw [hp] at he
        cases o with
        | none => simp at he
        | some r =>
          simp only [] at he
          obtain ⟨p1, e1, n1, c1⟩ := h _ _ _ hp
          have hlen : l.length = 1 + (p1.length + m1.length) := by rw [hl, List.length_cons, e1, List.length_append]; omega
          obtain ⟨p2, e2, c2⟩ := ih _ _ _ _ (by omega) he
          refine ⟨hd l :: (p1 ++ p2), by rw [hl, e1, e2]; simp [hd], fun m' g hg hv => ?_⟩
          cases g with
          | zero => simp at hg
          | succ g =>
            have hop : opAt of (hd (hd l :: (p1 ++ p2) ++ m')) = some k := hk
            rw [more, hop]
            have ht : (hd l :: (p1 ++ p2) ++ m').tail = p1 ++ (p2 ++ m') := by simp
            simp only [ht]
            rw [c1 _ (by rw [e2]; exact View.app p2 hv)]
            simp only []
            refine c2 m' g ?_ hv
            simp only [List.cons_append, List.length_cons, List.length_append] at hg ⊢
            have := List.length_pos_iff.2 n1
            omega

theorem row_ctx {of : Nat} {part : P} (h : Ctx part) : Ctx (row of part) := by
  intro l x m he
  unfold row at he
  cases hp : part l with
  | mk o m1 =>
    rw [hp] at he
    cases o with
    | none => simp at he
    | some e =>
      simp only [] at he
      obtain ⟨p1, e1, n1, c1⟩ := h _ _ _ hp
      obtain ⟨p2, e2, c2⟩ := more_ctx h _ _ _ _ _ (Nat.le_refl _) he
      refine ⟨p1 ++ p2, by rw [e1, e2, List.append_assoc], by simp [n1], fun m' hv => ?_⟩
      unfold row
      rw [List.append_assoc, c1 _ (by rw [e2]; exact View.app p2 hv)]
      exact c2 m' _ (Nat.le_refl _) hv

theorem sum_ctx {f : P} (h : Ctx f) : Ctx (sum f) := row_ctx (row_ctx h)

theorem expr_ctx {f : P} (h : Ctx f) : Ctx (expr f) := by
  have hs := sum_ctx h
  intro l x m he
  unfold expr at he
  cases hp : sum f l with
  | mk o m1 =>
    rw [hp] at he
    cases o with
    | none => simp at he
    | some e =>
      simp only [] at he
      obtain ⟨p1, e1, n1, c1⟩ := hs _ _ _ hp
      cases hk : opAt 1 (hd m1) with
      | none =>
        rw [hk] at he
        simp at he
        obtain ⟨rfl, rfl⟩ := he
        refine ⟨p1, e1, n1, fun m' hv => ?_⟩
        unfold expr
        rw [c1 m' hv]
        simp only [(hv 1).trans hk]
      | some k =>
        rw [hk] at he
        simp only [] at he
        have hl : m1 = hd m1 :: m1.tail := hd_tail (by rw [opAt_hd hk]; decide)
        cases hq : sum f m1.tail with
        | mk o m2 =>
          rw [hq] at he
          cases o with
          | none => simp at he
          | some r =>
            simp at he
            obtain ⟨rfl, rfl⟩ := he
            obtain ⟨p2, e2, n2, c2⟩ := hs _ _ _ hq
            refine ⟨p1 ++ hd m1 :: p2, ?_, by simp, fun m' hv => ?_⟩
            · rw [e1, hl, e2]; simp [hd]
            · unfold expr
              have hv1 : View m1 (hd m1 :: p2 ++ m') := by
                intro of; rfl
              rw [List.append_assoc, c1 _ hv1]
              have : opAt 1 (hd (hd m1 :: p2 ++ m')) = some k := hk
              simp only [this]
              have : (hd m1 :: p2 ++ m').tail = p2 ++ m' := rfl
              rw [this, c2 m' hv]

theorem minus_ctx {f : P} (h : Ctx f) : Ctx (minus f) := by
  intro l x m he
  unfold minus at he
  cases hp : f l with
  | mk o m1 =>
    rw [hp] at he
    cases o with
    | none => simp at he
    | some e =>
      simp at he
      obtain ⟨rfl, rfl⟩ := he
      obtain ⟨p, e1, n1, c1⟩ := h _ _ _ hp
      exact ⟨p, e1, n1, fun m' hv => by unfold minus; rw [c1 m' hv]⟩

theorem paren_ctx {f : P} (h : Ctx f) : Ctx (paren f) := by
  intro l x m he
  unfold paren at he
  cases hp : expr f l with
  | mk o m1 =>
    rw [hp] at he
    cases o with
    | none => simp at he
    | some e =>
      simp only [] at he
      obtain ⟨p, e1, n1, c1⟩ := expr_ctx h _ _ _ hp
      split at he
      · rename_i hc
        simp at he
        obtain ⟨rfl, rfl⟩ := he
        have hl : m1 = hd m1 :: m1.tail := hd_tail (by rw [isSg_hd hc]; decide)
        refine ⟨p ++ [hd m1], by rw [e1]; conv => lhs; rw [hl]
                                 simp, by simp, fun m' hv => ?_⟩
        unfold paren
        have hv1 : View m1 (hd m1 :: m') := fun of => rfl
        rw [List.append_assoc, show [hd m1] ++ m' = hd m1 :: m' from rfl, c1 _ hv1]
        have : isSg [41] (hd (hd m1 :: m')) = true := hc
        simp only [this, if_true]
        rfl
      · simp at he

theorem one_ctx {l : List Core} (h4 : (hd l).1 ≠ 4) : l = [hd l] ++ l.tail := by
  have := hd_tail h4
  exact this

theorem fac_ctx : ∀ d, Ctx (fac d) := by
  intro d
  induction d with
  | zero =>
    intro l x m he
    rw [fac_zero] at he
    split at he
    · rename_i h2
      simp at he
      obtain ⟨rfl, rfl⟩ := he
      refine ⟨[hd l], one_ctx (by rw [h2]; decide), by simp, fun m' _ => ?_⟩
      have e : hd ([hd l] ++ m') = hd l := rfl
      rw [fac_zero, e, if_pos h2]; rfl
    · rename_i h2
      split at he
      · rename_i h1
        simp at he
        obtain ⟨rfl, rfl⟩ := he
        refine ⟨[hd l], one_ctx (by rw [h1.1]; decide), by simp, fun m' _ => ?_⟩
        have e : hd ([hd l] ++ m') = hd l := rfl
        rw [fac_zero, e, if_neg h2, if_pos h1]; rfl
      · simp at he
  | succ d ih =>
    intro l x m he
    rw [fac_succ] at he
    split at he
    · rename_i h2
      simp at he
      obtain ⟨rfl, rfl⟩ := he
      refine ⟨[hd l], one_ctx (by rw [h2]; decide), by simp, fun m' _ => ?_⟩
      have e : hd ([hd l] ++ m') = hd l := rfl
      rw [fac_succ, e, if_pos h2]; rfl
    · rename_i h2
      split at he
      · rename_i h1
        simp at he
        obtain ⟨rfl, rfl⟩ := he
        refine ⟨[hd l], one_ctx (by rw [h1.1]; decide), by simp, fun m' _ => ?_⟩
        have e : hd ([hd l] ++ m') = hd l := rfl
        rw [fac_succ, e, if_neg h2, if_pos h1]; rfl
      · rename_i h1
        split at he
        · rename_i h3
          obtain ⟨p, e1, n1, c1⟩ := minus_ctx ih _ _ _ he
          refine ⟨hd l :: p, ?_, by simp, fun m' hv => ?_⟩
          · rw [List.cons_append, ← e1]; exact hd_tail (by rw [isSg_hd h3]; decide)
          · have e : hd (hd l :: p ++ m') = hd l := rfl
            rw [fac_succ, e, if_neg h2, if_neg h1, if_pos h3]
            exact c1 m' hv
        · rename_i h3
          split at he
          · rename_i h5
            obtain ⟨p, e1, n1, c1⟩ := paren_ctx ih _ _ _ he
            refine ⟨hd l :: p, ?_, by simp, fun m' hv => ?_⟩
            · rw [List.cons_append, ← e1]; exact hd_tail (by rw [isSg_hd h5]; decide)
            · have e : hd (hd l :: p ++ m') = hd l := rfl
              rw [fac_succ, e, if_neg h2, if_neg h1, if_neg h3, if_pos h5]
              exact c1 m' hv
          · simp at he

/-! ### Deeper -/
def Le (a b : P) : Prop := ∀ l x m, a l = (some x, m) → b l = (some x, m)
theorem more_le {of : Nat} {a b : P} (h : Le a b) : ∀ f e l x m, more of a f e l = (some x, m) → more of b f e l = (some x, m) := by
  intro f
  induction f with
  | zero => intro e l x m he; exact he
  | succ f ih =>
    intro e l x m he
    rw [more] at he ⊢
    cases hk : opAt of (hd l) with
    | none => rw [hk] at he; exact he
    | some k =>
      rw [hk] at he
      simp only [] at he ⊢
      cases hp : a l.tail with
      | mk o m1 =>
        rw [hp] at he
        cases o with
        | none => simp at he
        | some r => rw [h _ _ _ hp]; exact ih _ _ _ _ he
theorem row_le {of : Nat} {a b : P} (h : Le a b) : Le (row of a) (row of b) := by
  intro l x m he
  unfold row at he ⊢
  cases hp : a l with
  | mk o m1 =>
    rw [hp] at he
    cases o with
    | none => simp at he
    | some e => rw [h _ _ _ hp]; exact more_le h _ _ _ _ _ he
theorem expr_le {a b : P} (h : Le a b) : Le (expr a) (expr b) := by
  have hs : Le (sum a) (sum b) := row_le (row_le h)
  intro l x m he
  unfold expr at he ⊢
  cases hp : sum a l with
  | mk o m1 =>
    rw [hp] at he
    cases o with
    | none => simp at he
    | some e =>
      rw [hs _ _ _ hp]
      simp only [] at he ⊢
      cases hk : opAt 1 (hd m1) with
      | none => rw [hk] at he; exact he
      | some k =>
        rw [hk] at he
        simp only [] at he ⊢
        cases hq : sum a m1.tail with
        | mk o m2 =>
          rw [hq] at he
          cases o with
          | none => simp at he
          | some r => rw [hs _ _ _ hq]; exact he
theorem minus_le {a b : P} (h : Le a b) : Le (minus a) (minus b) := by
  intro l x m he
  unfold minus at he ⊢
  cases hp : a l with
  | mk o m1 =>
    rw [hp] at he
    cases o with
    | none => simp at he
    | some e => rw [h _ _ _ hp]; exact he
theorem paren_le {a b : P} (h : Le a b) : Le (paren a) (paren b) := by
  intro l x m he
  unfold paren at he ⊢
  cases hp : expr a l with
  | mk o m1 =>
    rw [hp] at he
    cases o with
    | none => simp at he
    | some e => rw [expr_le h _ _ _ hp]; exact he
theorem fac_le : ∀ d, Le (fac d) (fac (d + 1)) := by
  intro d
  induction d with
  | zero =>
    intro l x m he
    rw [fac_zero] at he
    rw [fac_succ]
    split at he
    · rename_i h2; rw [if_pos h2]; exact he
    · rename_i h2
      split at he
      · rename_i h1; rw [if_neg h2, if_pos h1]; exact he
      · simp at he
  | succ d ih =>
    intro l x m he
    rw [fac_succ] at he
    rw [fac_succ]
    split at he
    · rename_i h2; rw [if_pos h2]; exact he
    · rename_i h2
      split at he
      · rename_i h1; rw [if_neg h2, if_pos h1]; exact he
      · rename_i h1
        rw [if_neg h2, if_neg h1]
        split at he
        · rename_i h3; rw [if_pos h3]; exact minus_le ih _ _ _ he
        · rename_i h3
          rw [if_neg h3]
          split at he
          · rename_i h5; rw [if_pos h5]; exact paren_le ih _ _ _ he
          · simp at he

/-- Parentheses about it: if it is read, it is the same. -/
theorem paren_same {d : Nat} {l : List Core} {e : Ex} {m m' : List Core} (h : expr (fac d) l = (some e, m)) (p : List Core) (hp : l = p ++ m) (hv : View m ((3, [41], 0) :: m')) {y : Ex} {n : List Core}
    (hy : fac d ((3, [40], 0) :: (p ++ (3, [41], 0) :: m')) = (some y, n)) : y = e ∧ n = m' := by
  cases d with
  | zero =>
    rw [fac_zero] at hy
    rw [if_neg (by show ¬ (3 = 2); decide), if_neg (by intro c; exact absurd c.1 (by show ¬ (3 = 1); decide))] at hy
    simp at hy
  | succ d =>
    rw [fac_succ, if_neg (by show ¬ (3 = 2); decide), if_neg (by intro c; exact absurd c.1 (by show ¬ (3 = 1); decide)), if_neg (by show ¬ (isSg [45] (3, [40], 0) = true); decide), if_pos (by show (isSg [40] (3, [40], 0) = true); decide)] at hy
    unfold paren at hy
    obtain ⟨p', e1, n1, c1⟩ := expr_ctx (fac_ctx (d + 1)) _ _ _ h
    have hpp : p' = p := by
      rw [hp] at e1
      exact (List.append_cancel_right e1).symm
    subst hpp
    have c2 := c1 _ hv
    have ht : ((3, [40], 0) :: (p' ++ (3, [41], 0) :: m') : List Core).tail = p' ++ (3, [41], 0) :: m' := rfl
    rw [ht] at hy
    cases hq : expr (fac d) (p' ++ (3, [41], 0) :: m') with
    | mk o m1 =>
      rw [hq] at hy
      cases o with
      | none => simp at hy
      | some z =>
        have := expr_le (fac_le d) _ _ _ hq
        rw [c2] at this
        simp at this
        obtain ⟨rfl, rfl⟩ := this
        simp only [] at hy
        rw [if_pos (by show isSg [41] (3, [41], 0) = true; decide)] at hy
        simp at hy
        exact ⟨hy.1.symm, hy.2.symm⟩

end Px
#print axioms Px.paren_same
end Go.Proofs.YtbjdnniklcmcbaaDoor
