/- PlA -/
import Derived.Test.YtnfkjmafhaecgaaYLxA
import Derived.Test.YtnfkjmafhaecgaaYKpA
import Derived.Lib.ItoaLen

namespace Go.Proofs.Ytnfkjmafhaecgaa
namespace Px
open Lx (Core)
def ba (l : List UInt8) : ByteArray := ⟨l.toArray⟩
abbrev e0 : ByteArray := ⟨#[]⟩
def numE (n : Nat) : Ex := .mk 1 n e0 []
def nameE (t : List UInt8) : Ex := .mk 2 0 (ba t) []
def minusE (e : Ex) : Ex := .mk 3 0 e0 [e]
def binE (k : Nat) (a b : Ex) : Ex := .mk k 0 e0 [a, b]
def rnk (k : Int) : Nat := if k = 9 ∨ k = 10 then 1 else if k = 4 ∨ k = 5 then 2 else if k = 6 ∨ k = 7 ∨ k = 8 then 3 else 4
def sgn (k : Int) : List UInt8 := if k = 4 then [43] else if k = 5 then [45] else if k = 6 then [42] else if k = 7 then [47] else if k = 8 then [37] else if k = 9 then [60] else if k = 10 then [61, 61] else []
def kws : List (List UInt8) := [[118, 97, 114], [119, 105, 100, 101], [97, 116, 111, 109, 105, 99], [108, 111, 99, 97, 108], [109, 117, 116, 101, 120], [99, 104, 97, 110],
  [103, 111], [108, 111, 99, 107], [117, 110, 108, 111, 99, 107], [115, 101, 110, 100], [114, 101, 99, 118], [112, 114, 105, 110, 116], [105, 102], [101, 108, 115, 101], [114, 101, 112, 101, 97, 116], [103, 111, 116, 111], [108, 97, 98, 101, 108]]
def isNm (t : List UInt8) : Bool := Lx.isWord t && !(kws.any (t == ·))
/-- The operator that the token is, if it is one of that rank. -/
def opAt (of : Nat) (t : Core) : Option Nat := if t.1 = 3 then [4, 5, 6, 7, 8, 9, 10].find? (fun k => (rnk (k : Nat) == of) && (t.2.1 == sgn (k : Nat))) else none
def isSg (x : List UInt8) (t : Core) : Bool := (t.1 == 3) && (t.2.1 == x)
def hd (l : List Core) : Core := l.headD (4, [], 0)
abbrev P := List Core → Option Ex × List Core
def more (of : Nat) (part : P) : Nat → Ex → P
  | 0, e, l => (some e, l)
  | f + 1, e, l => match opAt of (hd l) with
    | none => (some e, l)
    | some k => match part l.tail with
      | (none, m) => (none, m)
      | (some r, m) => more of part f (binE k e r) m
def row (of : Nat) (part : P) : P := fun l => match part l with
  | (none, m) => (none, m)
  | (some e, m) => more of part m.length e m
def sum (f : P) : P := row 2 (row 3 f)
def expr (f : P) : P := fun l => match sum f l with
  | (none, m) => (none, m)
  | (some e, m) => match opAt 1 (hd m) with
    | none => (some e, m)
    | some k => match sum f m.tail with
      | (none, m') => (none, m')
      | (some r, m') => (some (binE k e r), m')
def minus (f : P) : P := fun l => match f l with
  | (none, m) => (none, m)
  | (some e, m) => (some (minusE e), m)
def paren (f : P) : P := fun l => match expr f l with
  | (none, m) => (none, m)
  | (some e, m) => if isSg [41] (hd m) then (some e, m.tail) else (none, m)
def fac : Nat → P
  | d, l => if (hd l).1 = 2 then (some (numE (hd l).2.2), l.tail)
    else if (hd l).1 = 1 ∧ isNm (hd l).2.1 = true then (some (nameE (hd l).2.1), l.tail)
    else match d with
    | 0 => (none, l)
    | d + 1 => if isSg [45] (hd l) then minus (fac d) l.tail else if isSg [40] (hd l) then paren (fac d) l.tail else (none, l)
theorem fac_zero (l : List Core) : fac 0 l = if (hd l).1 = 2 then (some (numE (hd l).2.2), l.tail) else if (hd l).1 = 1 ∧ isNm (hd l).2.1 = true then (some (nameE (hd l).2.1), l.tail) else (none, l) := by rw [fac]
theorem fac_succ (d : Nat) (l : List Core) : fac (d + 1) l = if (hd l).1 = 2 then (some (numE (hd l).2.2), l.tail) else if (hd l).1 = 1 ∧ isNm (hd l).2.1 = true then (some (nameE (hd l).2.1), l.tail) else
   if isSg [45] (hd l) then minus (fac d) l.tail else if isSg [40] (hd l) then paren (fac d) l.tail else (none, l) := by rw [fac]
/-! ### Where a reading ends -/
theorem hd_tail {l : List Core} (h : (hd l).1 ≠ 4) : l = hd l :: l.tail := by
  cases l with
  | nil => exact absurd rfl h
  | cons a l => rfl
theorem opAt_hd {of : Nat} {l : List Core} {k : Nat} (h : opAt of (hd l) = some k) : (hd l).1 = 3 := by
  unfold opAt at h
  split at h
  · assumption
  · cases h
theorem isSg_hd {x : List UInt8} {l : List Core} (h : isSg x (hd l) = true) : (hd l).1 = 3 := by
  simp [isSg] at h; exact h.1
/-- What is left is the end of what there was. -/
def Suf (part : P) : Prop := ∀ l, (part l).2 <:+ l
theorem suf_tail (l : List Core) : l.tail <:+ l := List.tail_suffix l
theorem more_suf {of : Nat} {part : P} (h : Suf part) : ∀ f e l, (more of part f e l).2 <:+ l := by
  intro f
  induction f with
  | zero => intro e l; exact List.suffix_refl _
  | succ f ih =>
    intro e l
    rw [more]
    cases opAt of (hd l) with
    | none => exact List.suffix_refl _
    | some k =>
      have := h l.tail
      cases hp : part l.tail with
      | mk o m =>
        rw [hp] at this
        cases o with
        | none => exact this.trans (suf_tail l)
        | some r => exact (ih _ m).trans (this.trans (suf_tail l))
theorem row_suf {of : Nat} {part : P} (h : Suf part) : Suf (row of part) := by
  intro l
  have := h l
  unfold row
  cases hp : part l with
  | mk o m =>
    rw [hp] at this
    cases o with
    | none => exact this
    | some e => exact (more_suf h _ _ _).trans this
theorem expr_suf {f : P} (h : Suf f) : Suf (expr f) := by
  have hs : Suf (sum f) := row_suf (row_suf h)
  intro l
  have h1 := hs l
  unfold expr
  cases hp : sum f l with
  | mk o m =>
    rw [hp] at h1
    cases o with
    | none => exact h1
    | some e =>
      cases hk : opAt 1 (hd m) with
      | none => simp only [hk]; exact h1
      | some k =>
        simp only [hk]
        have h2 := hs m.tail
        cases hq : sum f m.tail with
        | mk o m' =>
          rw [hq] at h2
          cases o with
          | none => exact h2.trans ((suf_tail m).trans h1)
          | some r => exact h2.trans ((suf_tail m).trans h1)
theorem minus_suf {f : P} (h : Suf f) : Suf (minus f) := by
  intro l
  have h1 := h l
  unfold minus
  cases hp : f l with
  | mk o m => rw [hp] at h1; cases o <;> exact h1
theorem paren_suf {f : P} (h : Suf f) : Suf (paren f) := by
  intro l
  have h1 := expr_suf h l
  unfold paren
  cases hp : expr f l with
  | mk o m =>
    rw [hp] at h1
    cases o with
    | none => exact h1
    | some e =>
      simp only []
      split
      · exact (suf_tail m).trans h1
      · exact h1
theorem fac_suf : ∀ d, Suf (fac d) := by
  intro d
  induction d with
  | zero =>
    intro l
    rw [fac_zero]
    split
    · exact suf_tail l
    · split
      · exact suf_tail l
      · exact List.suffix_refl _
  | succ d ih =>
    intro l
    rw [fac_succ]
    split
    · exact suf_tail l
    · split
      · exact suf_tail l
      · split
        · exact (minus_suf ih _).trans (suf_tail l)
        · split
          · exact (paren_suf ih _).trans (suf_tail l)
          · exact List.suffix_refl _
/-! ### What a reading needs: what it has read, and which operator follows -/
/-- The same operator follows, or none. -/
def View (m m' : List Core) : Prop := ∀ of, opAt of (hd m') = opAt of (hd m)
theorem View.refl (m : List Core) : View m m := fun _ => rfl
theorem View.app (p : List Core) {m m' : List Core} (h : View m m') : View (p ++ m) (p ++ m') := by
  cases p with
  | nil => exact h
  | cons a p => intro of; rfl
/-- A reading that is one has read something, and reads it wherever it stands. -/
def Ctx (part : P) : Prop := ∀ l x m, part l = (some x, m) → ∃ p, l = p ++ m ∧ p ≠ [] ∧ ∀ m', View m m' → part (p ++ m') = (some x, m')
theorem more_none {of : Nat} {part : P} {f : Nat} {e : Ex} {l : List Core} (h : opAt of (hd l) = none) : more of part f e l = (some e, l) := by
  cases f with
  | zero => rfl
  | succ f => rw [more, h]
theorem more_ctx {of : Nat} {part : P} (h : Ctx part) : ∀ f e l x m, l.length ≤ f → more of part f e l = (some x, m) →
    ∃ p, l = p ++ m ∧ ∀ m' g, (p ++ m').length ≤ g → View m m' → more of part g e (p ++ m') = (some x, m') := by
  intro f
  induction f with
  | zero =>
    intro e l x m hf he
    rw [more] at he
    cases l with
    | cons a l => simp at hf
    | nil =>
      simp at he
      obtain ⟨rfl, rfl⟩ := he
      refine ⟨[], rfl, fun m' g _ hv => ?_⟩
      exact more_none (hv of)
  | succ f ih =>
    intro e l x m hf he
    rw [more] at he
    cases hk : opAt of (hd l) with
    | none =>
      rw [hk] at he
      simp at he
      obtain ⟨rfl, rfl⟩ := he
      refine ⟨[], rfl, fun m' g _ hv => ?_⟩
      exact more_none ((hv of).trans hk)
    | some k =>
      rw [hk] at he
      have hl : l = hd l :: l.tail := hd_tail (by rw [opAt_hd hk]; decide)
      simp only [] at he
      cases hp : part l.tail with
      | mk o m1 =>
        rw [hp] at he
        cases o with
        | none => simp at he
        | some r =>
          simp only [] at he
          obtain ⟨p1, e1, n1, c1⟩ := h _ _ _ hp
          have hlen : l.length = 1 + (p1.length + m1.length) := by rw [hl, List.length_cons, e1, List.length_append]; omega
          obtain ⟨p2, e2, c2⟩ := ih _ _ _ _ (by omega) he
          refine ⟨hd l :: (p1 ++ p2), by rw [hl, e1, e2]; simp [hd], fun m' g hg hv => ?_⟩
          cases g with
          | zero => simp at hg
          | succ g =>
            have hop : opAt of (hd (hd l :: (p1 ++ p2) ++ m')) = some k := hk
            rw [more, hop]
            have ht : (hd l :: (p1 ++ p2) ++ m').tail = p1 ++ (p2 ++ m') := by simp
            simp only [ht]
            rw [c1 _ (by rw [e2]; exact View.app p2 hv)]
            simp only []
            refine c2 m' g ?_ hv
            simp only [List.cons_append, List.length_cons, List.length_append] at hg ⊢
            have := List.length_pos_iff.2 n1
            omega
theorem row_ctx {of : Nat} {part : P} (h : Ctx part) : Ctx (row of part) := by
  intro l x m he
  unfold row at he
  cases hp : part l with
  | mk o m1 =>
    rw [hp] at he
    cases o with
    | none => simp at he
    | some e =>
      simp only [] at he
      obtain ⟨p1, e1, n1, c1⟩ := h _ _ _ hp
      obtain ⟨p2, e2, c2⟩ := more_ctx h _ _ _ _ _ (Nat.le_refl _) he
      refine ⟨p1 ++ p2, by rw [e1, e2, List.append_assoc], by simp [n1], fun m' hv => ?_⟩
      unfold row
      rw [List.append_assoc, c1 _ (by rw [e2]; exact View.app p2 hv)]
      exact c2 m' _ (Nat.le_refl _) hv
theorem sum_ctx {f : P} (h : Ctx f) : Ctx (sum f) := row_ctx (row_ctx h)
theorem expr_ctx {f : P} (h : Ctx f) : Ctx (expr f) := by
  have hs := sum_ctx h
  intro l x m he
  unfold expr at he
  cases hp : sum f l with
  | mk o m1 =>
    rw [hp] at he
    cases o with
    | none => simp at he
    | some e =>
      simp only [] at he
      obtain ⟨p1, e1, n1, c1⟩ := hs _ _ _ hp
      cases hk : opAt 1 (hd m1) with
      | none =>
        rw [hk] at he
        simp at he
        obtain ⟨rfl, rfl⟩ := he
        refine ⟨p1, e1, n1, fun m' hv => ?_⟩
        unfold expr
        rw [c1 m' hv]
        simp only [(hv 1).trans hk]
      | some k =>
        rw [hk] at he
        simp only [] at he
        have hl : m1 = hd m1 :: m1.tail := hd_tail (by rw [opAt_hd hk]; decide)
        cases hq : sum f m1.tail with
        | mk o m2 =>
          rw [hq] at he
          cases o with
          | none => simp at he
          | some r =>
            simp at he
            obtain ⟨rfl, rfl⟩ := he
            obtain ⟨p2, e2, n2, c2⟩ := hs _ _ _ hq
            refine ⟨p1 ++ hd m1 :: p2, ?_, by simp, fun m' hv => ?_⟩
            · rw [e1, hl, e2]; simp [hd]
            · unfold expr
              have hv1 : View m1 (hd m1 :: p2 ++ m') := by
                intro of; rfl
              rw [List.append_assoc, c1 _ hv1]
              have : opAt 1 (hd (hd m1 :: p2 ++ m')) = some k := hk
              simp only [this]
              have : (hd m1 :: p2 ++ m').tail = p2 ++ m' := rfl
              rw [this, c2 m' hv]
theorem minus_ctx {f : P} (h : Ctx f) : Ctx (minus f) := by
  intro l x m he
  unfold minus at he
  cases hp : f l with
  | mk o m1 =>
    rw [hp] at he
    cases o with
    | none => simp at he
    | some e =>
      simp at he
      obtain ⟨rfl, rfl⟩ := he
      obtain ⟨p, e1, n1, c1⟩ := h _ _ _ hp
      exact ⟨p, e1, n1, fun m' hv => by unfold minus; rw [c1 m' hv]⟩
theorem paren_ctx {f : P} (h : Ctx f) : Ctx (paren f) := by
  intro l x m he
  unfold paren at he
  cases hp : expr f l with
  | mk o m1 =>
    rw [hp] at he
    cases o with
    | none => simp at he
    | some e =>
      simp only [] at he
      obtain ⟨p, e1, n1, c1⟩ := expr_ctx h _ _ _ hp
      split at he
      · rename_i hc
        simp at he
        obtain ⟨rfl, rfl⟩ := he
        have hl : m1 = hd m1 :: m1.tail := hd_tail (by rw [isSg_hd hc]; decide)
        refine ⟨p ++ [hd m1], by rw [e1]; conv => lhs; rw [hl]
                                 simp, by simp, fun m' hv => ?_⟩
        unfold paren
        have hv1 : View m1 (hd m1 :: m') := fun of => rfl
        rw [List.append_assoc, show [hd m1] ++ m' = hd m1 :: m' from rfl, c1 _ hv1]
        have : isSg [41] (hd (hd m1 :: m')) = true := hc
        simp only [this, if_true]
        rfl
      · simp at he
theorem one_ctx {l : List Core} (h4 : (hd l).1 ≠ 4) : l = [hd l] ++ l.tail := by
  have := hd_tail h4
  exact this
theorem fac_ctx : ∀ d, Ctx (fac d) := by
  intro d
  induction d with
  | zero =>
    intro l x m he
    rw [fac_zero] at he
    split at he
    · rename_i h2
      simp at he
      obtain ⟨rfl, rfl⟩ := he
      refine ⟨[hd l], one_ctx (by rw [h2]; decide), by simp, fun m' _ => ?_⟩
      have e : hd ([hd l] ++ m') = hd l := rfl
      rw [fac_zero, e, if_pos h2]; rfl
    · rename_i h2
      split at he
      · rename_i h1
        simp at he
        obtain ⟨rfl, rfl⟩ := he
        refine ⟨[hd l], one_ctx (by rw [h1.1]; decide), by simp, fun m' _ => ?_⟩
        have e : hd ([hd l] ++ m') = hd l := rfl
        rw [fac_zero, e, if_neg h2, if_pos h1]; rfl
      · simp at he
  | succ d ih =>
    intro l x m he
    rw [fac_succ] at he
    split at he
    · rename_i h2
      simp at he
      obtain ⟨rfl, rfl⟩ := he
      refine ⟨[hd l], one_ctx (by rw [h2]; decide), by simp, fun m' _ => ?_⟩
      have e : hd ([hd l] ++ m') = hd l := rfl
      rw [fac_succ, e, if_pos h2]; rfl
    · rename_i h2
      split at he
      · rename_i h1
        simp at he
        obtain ⟨rfl, rfl⟩ := he
        refine ⟨[hd l], one_ctx (by rw [h1.1]; decide), by simp, fun m' _ => ?_⟩
        have e : hd ([hd l] ++ m') = hd l := rfl
        rw [fac_succ, e, if_neg h2, if_pos h1]; rfl
      · rename_i h1
        split at he
        · rename_i h3
          obtain ⟨p, e1, n1, c1⟩ := minus_ctx ih _ _ _ he
          refine ⟨hd l :: p, ?_, by simp, fun m' hv => ?_⟩
          · rw [List.cons_append, ← e1]; exact hd_tail (by rw [isSg_hd h3]; decide)
          · have e : hd (hd l :: p ++ m') = hd l := rfl
            rw [fac_succ, e, if_neg h2, if_neg h1, if_pos h3]
            exact c1 m' hv
        · rename_i h3
          split at he
          · rename_i h5
            obtain ⟨p, e1, n1, c1⟩ := paren_ctx ih _ _ _ he
            refine ⟨hd l :: p, ?_, by simp, fun m' hv => ?_⟩
            · rw [List.cons_append, ← e1]; exact hd_tail (by rw [isSg_hd h5]; decide)
            · have e : hd (hd l :: p ++ m') = hd l := rfl
              rw [fac_succ, e, if_neg h2, if_neg h1, if_neg h3, if_pos h5]
              exact c1 m' hv
          · simp at he
/-! ### Deeper -/
end Px
end Go.Proofs.Ytnfkjmafhaecgaa
namespace Go.Proofs.Ytnfkjmafhaecgaa
namespace Ex
mutual
/-- Numbers that fit, short names. -/
def fit : Ex → Prop
  | .mk _ n s l => (-9223372036854775808 ≤ n ∧ n ≤ 9223372036854775807 ∧ s.size ≤ 12) ∧ fits l
def fits : List Ex → Prop
  | [] => True
  | a :: l => fit a ∧ fits l
end
theorem fit_eq (x : Ex) : fit x ↔ (-9223372036854775808 ≤ x.n ∧ x.n ≤ 9223372036854775807 ∧ x.name.size ≤ 12) ∧ fits x.of := by cases x; rw [fit]; rfl
end Ex
namespace Px
/-- In parentheses, if it ranks below; nothing more once it is too long. -/
def wrap (k : Int) (f : List UInt8 → List UInt8) (acc : List UInt8) (least : Nat) : List UInt8 :=
  if 6000 < acc.length then acc else if rnk k < least then f (acc ++ [40]) ++ [41] else f acc
def wb : Ex → (List UInt8 → List UInt8)
  | .mk k n s l => fun acc =>
    if k = 1 then acc ++ Lib.itoa n else if k = 2 then acc ++ s.data.toList else
    match l with
    | [y] => if k = 3 then wrap y.kind (wb y) (acc ++ [45]) 4 else acc
    | [y, z] => if sgn k = [] then acc else wrap z.kind (wb z) (wrap y.kind (wb y) acc (max (rnk k) 2) ++ [32] ++ sgn k ++ [32]) (rnk k + 1)
    | _ => acc
def wr (x : Ex) (acc : List UInt8) (least : Nat) : List UInt8 := wrap x.kind (wb x) acc least
end Px
end Go.Proofs.Ytnfkjmafhaecgaa
namespace Go.Proofs.Ytnfkjmafhaecgaa
namespace Px
open Lx (Core)
/-- How a list of tokens is read, from its first one on. -/
abbrev read (l : List Core) : Option Ex × List Core := expr (fac 8) l
theorem read_suf (l : List Core) : (read l).2 <:+ l := expr_suf (fac_suf 8) l
/-- The end of the tokens of a text. -/
theorem run_end (f : Nat) : ∀ (p : Nat) (l : List UInt8) (ts : List Lx.Tk), Lx.run f p l = .good ts → ∃ t ∈ ts, t.kind = 4 := by
  induction f with
  | zero => intro p l ts h; cases h
  | succ f ih =>
    intro p l ts h
    cases l with
    | nil => simp [Lx.run] at h; rw [← h]; exact ⟨_, List.mem_cons_self .., rfl⟩
    | cons c r =>
      rw [Lx.run_cons] at h
      split at h
      · exact ih _ _ _ h
      · split at h
        · exact ih _ _ _ h
        · cases ho : Lx.one (c :: r) with
          | none => rw [ho] at h; cases h
          | some x =>
            obtain ⟨k, len, n⟩ := x
            rw [ho] at h
            simp only [] at h
            cases hr : Lx.run f (p + len) ((c :: r).drop len) with
            | bad q => rw [hr] at h; cases h
            | good us =>
              rw [hr] at h
              simp only [Lx.Out.pre, Lx.Out.good.injEq] at h
              obtain ⟨t, ht, hk⟩ := ih _ _ _ hr
              exact ⟨t, by rw [← h]; exact List.mem_append_right _ ht, hk⟩
theorem toks_end {l : List UInt8} {ts : List Lx.Tk} (h : Lx.toks l = .good ts) : ∃ t ∈ ts, t.kind = 4 := by
  unfold Lx.toks at h
  split at h
  · cases h
  · exact run_end _ _ _ _ h
theorem toks_ne (l : List UInt8) (ts : List Lx.Tk) (h : Lx.toks l = .good ts) : ts ≠ [] := by
  unfold Lx.toks at h
  split at h
  · cases h
  · exact Lx.run_ne _ _ _ _ h
theorem run_count (f : Nat) : ∀ (p : Nat) (l : List UInt8) (ts : List Lx.Tk), Lx.run f p l = .good ts → ts.length ≤ l.length + 1 := by
  induction f with
  | zero => intro p l ts h; cases h
  | succ f ih =>
    intro p l ts h
    cases l with
    | nil => simp [Lx.run] at h; subst h; simp
    | cons c r =>
      rw [Lx.run_cons] at h
      split at h
      · have := ih _ _ _ h; simp; omega
      · split at h
        · have := ih _ _ _ h
          rw [List.length_drop] at this
          simp; omega
        · cases ho : Lx.one (c :: r) with
          | none => rw [ho] at h; cases h
          | some x =>
            obtain ⟨k, len, n⟩ := x
            have hl := Lx.one_len ho
            rw [ho] at h
            simp only [] at h
            cases hr : Lx.run f (p + len) ((c :: r).drop len) with
            | bad q => rw [hr] at h; cases h
            | good us =>
              rw [hr] at h
              simp only [Lx.Out.pre, Lx.Out.good.injEq] at h
              subst h
              have := ih _ _ _ hr
              rw [List.length_drop] at this
              simp only [List.length_append, List.length_singleton]
              omega
theorem toks_count (l : List UInt8) (ts : List Lx.Tk) (h : Lx.toks l = .good ts) : ts.length ≤ 6001 := by
  unfold Lx.toks at h
  split at h
  · cases h
  · have := run_count _ _ _ _ h; omega
/-- The text of an expression; none if that is not read as it again. -/
def print (x : Ex) : List UInt8 :=
  match Lx.toks (wr x [] 1) with
  | .bad _ => []
  | .good ts => match read (ts.map Lx.Tk.core) with
    | (none, _) => []
    | (some y, m) => if (hd m).1 = 4 ∧ y.same x = true then wr x [] 1 else []
end Px
end Go.Proofs.Ytnfkjmafhaecgaa
namespace Go.Proofs.Ytnfkjmafhaecgaa
namespace Px
open Lx (Core)
/-- Expressions that a text can say. -/
inductive Wf : Ex → Prop where
  | num (n : Nat) : n < 9223372036854775808 → Wf (numE n)
  | name (t : List UInt8) : isNm t = true → Wf (nameE t)
  | minus (y : Ex) : Wf y → Wf (minusE y)
  | bin (k : Nat) (y z : Ex) : 4 ≤ k → k ≤ 10 → Wf y → Wf z → Wf (binE k y z)
def tpw (k : Int) (t : List UInt8) (least : Nat) : List UInt8 := if rnk k < least then 40 :: (t ++ [41]) else t
def tb : Ex → List UInt8
  | .mk k n s l => if k = 1 then Lib.itoa n else if k = 2 then s.data.toList else
    match l with
    | [y] => 45 :: tpw y.kind (tb y) 4
    | [y, z] => tpw y.kind (tb y) (max (rnk k) 2) ++ 32 :: (sgn k ++ 32 :: tpw z.kind (tb z) (rnk k + 1))
    | _ => []
def cpw (k : Int) (c : List Core) (least : Nat) : List Core := if rnk k < least then (3, [40], 0) :: (c ++ [(3, [41], 0)]) else c
def cb : Ex → List Core
  | .mk k n s l => if k = 1 then [(2, Lib.itoa n, n.toNat)] else if k = 2 then [(1, s.data.toList, 0)] else
    match l with
    | [y] => (3, [45], 0) :: cpw y.kind (cb y) 4
    | [y, z] => cpw y.kind (cb y) (max (rnk k) 2) ++ (3, sgn k, 0) :: cpw z.kind (cb z) (rnk k + 1)
    | _ => []
def dpw (k : Int) (d : Nat) (least : Nat) : Nat := if rnk k < least then 1 + d else d
def dp : Ex → Nat
  | .mk k _ _ l =>
    match l with
    | [y] => 1 + dpw y.kind (dp y) 4
    | [y, z] => max (dpw y.kind (dp y) (max (rnk k) 2)) (dpw z.kind (dp z) (rnk k + 1))
    | _ => 0
abbrev T (x : Ex) (l : Nat) : List UInt8 := tpw x.kind (tb x) l
abbrev C (x : Ex) (l : Nat) : List Core := cpw x.kind (cb x) l
abbrev D (x : Ex) (l : Nat) : Nat := dpw x.kind (dp x) l
theorem tb_num (n : Nat) : tb (numE n) = Lib.itoa n := by unfold numE; rw [tb.eq_def]; simp
theorem tb_name (t : List UInt8) : tb (nameE t) = t := by unfold nameE; rw [tb.eq_def]; simp [ba]
theorem tb_minus (y : Ex) : tb (minusE y) = 45 :: T y 4 := by unfold minusE; rw [tb.eq_def]; simp
theorem cb_num (n : Nat) : cb (numE n) = [(2, Lib.itoa n, n)] := by unfold numE; rw [cb.eq_def]; simp
theorem cb_name (t : List UInt8) : cb (nameE t) = [(1, t, 0)] := by unfold nameE; rw [cb.eq_def]; simp [ba]
theorem cb_minus (y : Ex) : cb (minusE y) = (3, [45], 0) :: C y 4 := by unfold minusE; rw [cb.eq_def]; simp
theorem dp_num (n : Nat) : dp (numE n) = 0 := by unfold numE; rw [dp.eq_def]
theorem dp_name (t : List UInt8) : dp (nameE t) = 0 := by unfold nameE; rw [dp.eq_def]
theorem dp_minus (y : Ex) : dp (minusE y) = 1 + D y 4 := by unfold minusE; rw [dp.eq_def]
theorem k12 {k : Nat} (h : 4 ≤ k) : ¬ ((k : Int) = 1) ∧ ¬ ((k : Int) = 2) := ⟨by omega, by omega⟩
theorem tb_bin (k : Nat) (y z : Ex) (h : 4 ≤ k) : tb (binE k y z) = T y (max (rnk k) 2) ++ 32 :: (sgn k ++ 32 :: T z (rnk k + 1)) := by
  unfold binE; rw [tb.eq_def]; simp only [(k12 h).1, (k12 h).2, if_false]
theorem cb_bin (k : Nat) (y z : Ex) (h : 4 ≤ k) : cb (binE k y z) = C y (max (rnk k) 2) ++ (3, sgn k, 0) :: C z (rnk k + 1) := by
  unfold binE; rw [cb.eq_def]; simp only [(k12 h).1, (k12 h).2, if_false]
theorem dp_bin (k : Nat) (y z : Ex) : dp (binE k y z) = max (D y (max (rnk k) 2)) (D z (rnk k + 1)) := by
  unfold binE; rw [dp.eq_def]
theorem seven {P : Nat → Prop} (h4 : P 4) (h5 : P 5) (h6 : P 6) (h7 : P 7) (h8 : P 8) (h9 : P 9) (h10 : P 10) : ∀ k, 4 ≤ k → k ≤ 10 → P k := by
  intro k h1 h2
  match k, h1, h2 with
  | 4, _, _ => exact h4
  | 5, _, _ => exact h5
  | 6, _, _ => exact h6
  | 7, _, _ => exact h7
  | 8, _, _ => exact h8
  | 9, _, _ => exact h9
  | 10, _, _ => exact h10
theorem rnk_bin : ∀ k : Nat, 4 ≤ k → k ≤ 10 → 1 ≤ rnk (k : Int) ∧ rnk (k : Int) ≤ 3 := seven (by decide) (by decide) (by decide) (by decide) (by decide) (by decide) (by decide)
theorem op_bin : ∀ k : Nat, 4 ≤ k → k ≤ 10 → ∀ of, 1 ≤ of → of ≤ 3 → opAt of (3, sgn (k : Int), 0) = if rnk (k : Int) = of then some k else none := by
  have three : ∀ k : Nat, opAt 1 (3, sgn (k : Int), 0) = (if rnk (k : Int) = 1 then some k else none) → opAt 2 (3, sgn (k : Int), 0) = (if rnk (k : Int) = 2 then some k else none) → opAt 3 (3, sgn (k : Int), 0) = (if rnk (k : Int) = 3 then some k else none) → ∀ of, 1 ≤ of → of ≤ 3 → opAt of (3, sgn (k : Int), 0) = if rnk (k : Int) = of then some k else none := by
    intro k h1 h2 h3 of ha hb
    match of, ha, hb with
    | 1, _, _ => exact h1
    | 2, _, _ => exact h2
    | 3, _, _ => exact h3
  exact seven (three 4 (by decide) (by decide) (by decide)) (three 5 (by decide) (by decide) (by decide)) (three 6 (by decide) (by decide) (by decide)) (three 7 (by decide) (by decide) (by decide)) (three 8 (by decide) (by decide) (by decide)) (three 9 (by decide) (by decide) (by decide)) (three 10 (by decide) (by decide) (by decide))
theorem rnk_pos (k : Int) : 1 ≤ rnk k := by unfold rnk; repeat' split
                                            all_goals decide
/-! ### Written out -/
/-! ### Numbers -/
theorem val_append (d : List UInt8) (c : UInt8) : Lx.val (d ++ [c]) = Lx.val d * 10 + (c.toNat - 48) := by
  unfold Lx.val; rw [List.foldl_append]; rfl
theorem dec_big {u : Nat} (h : ¬ u < 10) : Lib.decDigits u = Lib.decDigits (u / 10) ++ [UInt8.ofNat (48 + u % 10)] := by
  rw [Lib.decDigits, dif_neg h]
theorem digit_of {r : Nat} (h : r < 10) : (UInt8.ofNat (48 + r)).toNat = 48 + r := by
  simp; omega
theorem digit_ok {r : Nat} (h : r < 10) : Lx.digit (UInt8.ofNat (48 + r)) = true := by
  rw [Lx.digit_iff, digit_of h]; omega
theorem dec_facts (u : Nat) : Lib.decDigits u ≠ [] ∧ (∀ c ∈ Lib.decDigits u, Lx.digit c = true) ∧ Lx.val (Lib.decDigits u) = u ∧ (1 ≤ u → ∃ c r, Lib.decDigits u = c :: r ∧ c ≠ 48) := by
  induction u using Nat.strongRecOn with
  | _ u ih =>
    by_cases h : u < 10
    · rw [Lib.decDigits_one h]
      refine ⟨by simp, ?_, ?_, fun h1 => ⟨_, _, rfl, ?_⟩⟩
      · intro c hc; rw [List.mem_singleton] at hc; subst hc; exact digit_ok h
      · have := val_append [] (UInt8.ofNat (48 + u))
        rw [List.nil_append] at this
        rw [this, digit_of h]
        show 0 * 10 + (48 + u - 48) = u
        omega
      · intro e
        have := congrArg UInt8.toNat e
        rw [digit_of h] at this
        have h48 : (48 : UInt8).toNat = 48 := rfl
        omega
    · rw [dec_big h]
      obtain ⟨h1, h2, h3, h4⟩ := ih (u / 10) (by omega)
      have hm : u % 10 < 10 := Nat.mod_lt _ (by decide)
      refine ⟨by simp, ?_, ?_, fun _ => ?_⟩
      · intro c hc
        rcases List.mem_append.1 hc with hc | hc
        · exact h2 c hc
        · rw [List.mem_singleton] at hc; subst hc; exact digit_ok hm
      · rw [val_append, h3, digit_of hm]; omega
      · obtain ⟨c, r, e, hc⟩ := h4 (by omega)
        exact ⟨c, r ++ [UInt8.ofNat (48 + u % 10)], by rw [e]; rfl, hc⟩
theorem num_dec (n : Nat) (h : n < 9223372036854775808) : Lx.num (Lib.decDigits n) = some n := by
  obtain ⟨h1, h2, h3, h4⟩ := dec_facts n
  unfold Lx.num
  rw [h3, if_neg, if_pos h]
  rintro ⟨hl, hh⟩
  by_cases h0 : 1 ≤ n
  · obtain ⟨c, r, e, hc⟩ := h4 h0
    rw [e] at hh
    simp at hh
    exact hc hh
  · have : n = 0 := by omega
    subst this
    rw [Lib.decDigits_one (by decide)] at hl
    simp at hl
/-! ### Tokens of what is written -/
/-- No word and no number goes on with it. -/
def Stop (r : List UInt8) : Prop := ∀ c t, r = c :: t → Lx.goes c = false
theorem stop_cons {c : UInt8} (h : Lx.goes c = false) (r : List UInt8) : Stop (c :: r) := by intro d t e; cases e; exact h
theorem goes_digit {c : UInt8} (h : Lx.goes c = false) : Lx.digit c = false := by unfold Lx.goes at h; simp only [Bool.or_eq_false_iff] at h; exact h.2
theorem tw_stop (p : UInt8 → Bool) (l r : List UInt8) (hl : ∀ c ∈ l, p c = true) (hr : ∀ c t, r = c :: t → p c = false) : (l ++ r).takeWhile p = l := by
  induction l with
  | nil =>
    cases r with
    | nil => rfl
    | cons c t => simp [hr c t rfl]
  | cons a l ih => rw [List.cons_append, List.takeWhile_cons, if_pos (hl a (by simp)), ih fun c hc => hl c (by simp [hc])]
theorem cr_sign (c : UInt8) (hl : Lx.lower c = false) (hd : Lx.digit c = false) (hb : Lx.blank c = false) (h35 : c ≠ 35) (h61 : c ≠ 61) (hs : Lx.signs.contains c = true) (r : List UInt8) : Lx.cr (c :: r) = (Lx.cr r).map fun ts => (3, [c], 0) :: ts := by
  have ho : Lx.one (c :: r) = some (3, 1, 0) := by
    rw [Lx.one_cons, if_neg (by rw [hl]; decide), if_neg (by rw [hd]; decide), if_neg (by intro e; exact h61 e.1), if_pos hs]
  rw [Lx.cr_one c r hb h35 ho]; rfl
theorem digit_not {c : UInt8} (h : Lx.digit c = true) : Lx.lower c = false ∧ Lx.blank c = false ∧ c ≠ 35 := by
  have hc := (Lx.digit_iff c).1 h
  have h2 : ∀ d : UInt8, d.toNat < 48 → c ≠ d := by intro d hd e; subst e; omega
  have a1 := h2 32 (by decide)
  have a2 := h2 9 (by decide)
  have a3 := h2 10 (by decide)
  refine ⟨?_, by simp [Lx.blank, a1, a2, a3], h2 35 (by decide)⟩
  unfold Lx.lower
  rw [decide_eq_false (by omega)]; rfl
theorem cr_num (n : Nat) (hn : n < 9223372036854775808) (r : List UInt8) (hr : Stop r) : Lx.cr (Lib.itoa n ++ r) = (Lx.cr r).map fun ts => (2, Lib.itoa n, n) :: ts := by
  rw [Lib.itoa_nonneg]
  obtain ⟨h1, h2, -, -⟩ := dec_facts n
  have hnum := num_dec n hn
  cases e : Lib.decDigits n with
  | nil => exact absurd e h1
  | cons c d =>
    rw [e] at h2 hnum
    have hc := h2 c (by simp)
    obtain ⟨q1, q2, q3⟩ := digit_not hc
    have htw : (d ++ r).takeWhile Lx.digit = d := tw_stop _ _ _ (fun x hx => h2 x (by simp [hx])) fun x t ex => goes_digit (hr x t ex)
    have ho : Lx.one (c :: (d ++ r)) = some (2, 1 + d.length, n) := by
      rw [Lx.one_cons, if_neg (by rw [q1]; decide), if_pos hc, htw, hnum]; rfl
    rw [List.cons_append, Lx.cr_one c (d ++ r) q2 q3 ho]
    have e1 : (c :: (d ++ r)).drop (1 + d.length) = r := by rw [Nat.add_comm, List.drop_succ_cons, List.drop_left]
    have e2 : (c :: (d ++ r)).take (1 + d.length) = c :: d := by rw [Nat.add_comm, List.take_succ_cons, List.take_left]
    rw [e1, e2]
theorem map_map_cons (o : Option (List Core)) (a b : List Core) : (o.map fun ts => b ++ ts).map (fun ts => a ++ ts) = o.map fun ts => (a ++ b) ++ ts := by
  cases o <;> simp
end Px
end Go.Proofs.Ytnfkjmafhaecgaa
namespace Go.Proofs.Ytnfkjmafhaecgaa
namespace Px
open Lx (Core)
/-! ### What is written is read -/
def Ok (l : Nat) (r : List Core) : Prop := ∀ of, l ≤ of → of ≤ 3 → opAt of (hd r) = none
theorem Ok.up {l l' : Nat} {r : List Core} (h : Ok l r) (hl : l ≤ l') : Ok l' r := fun of h1 h2 => h of (Nat.le_trans hl h1) h2
def Reads (part : P) (l d : Nat) : Prop := ∀ x, Wf x → D x l ≤ d → ∀ r, Ok l r → part (C x l ++ r) = (some x, r)
theorem more_fuel {of : Nat} {part : P} (h : Ctx part) : ∀ f g e l, l.length ≤ f → l.length ≤ g → more of part f e l = more of part g e l := by
  intro f
  induction f with
  | zero =>
    intro g e l hf hg
    have : l = [] := List.eq_nil_of_length_eq_zero (by omega)
    subst this
    have hn : opAt of (hd []) = none := by unfold opAt hd; rfl
    rw [more_none hn, more_none hn]
  | succ f ih =>
    intro g e l hf hg
    cases hk : opAt of (hd l) with
    | none => rw [more_none hk, more_none hk]
    | some k =>
      have hl : l = hd l :: l.tail := hd_tail (by rw [opAt_hd hk]; decide)
      have hll : l.length = l.tail.length + 1 := by conv => lhs; rw [hl]
                                                    simp
      cases g with
      | zero => omega
      | succ g =>
        rw [more, more, hk]
        simp only []
        cases hp : part l.tail with
        | mk o m =>
          cases o with
          | none => rfl
          | some r =>
            obtain ⟨p, e1, n1, -⟩ := h _ _ _ hp
            have := List.length_pos_iff.2 n1
            have h2 : l.tail.length = p.length + m.length := by rw [e1, List.length_append]
            exact ih g _ m (by omega) (by omega)
/-- A row that is written is read on to its end. -/
theorem row_go {of d : Nat} {part : P} (hof : of = 2 ∨ of = 3) (hc : Ctx part) (h : Reads part (of + 1) d) {x : Ex} (hx : Wf x) : D x of ≤ d → ∀ r, Ok (of + 1) r → row of part (C x of ++ r) = more of part r.length x r := by
  have base : ∀ y, Wf y → rnk y.kind ≠ of → D y of ≤ d → ∀ r, Ok (of + 1) r → row of part (C y of ++ r) = more of part r.length y r := by
    intro y hy hr hD r ho
    have e1 : C y of = C y (of + 1) := by unfold C cpw; by_cases c : rnk y.kind < of
                                          · rw [if_pos c, if_pos (by omega)]
                                          · rw [if_neg c, if_neg (by omega)]
    have e2 : D y of = D y (of + 1) := by unfold D dpw; by_cases c : rnk y.kind < of
                                          · rw [if_pos c, if_pos (by omega)]
                                          · rw [if_neg c, if_neg (by omega)]
    rw [e1]
    unfold row
    rw [h y hy (by rw [← e2]; exact hD) r ho]
  induction hx with
  | num n hn => exact base _ (.num n hn) (by show (4 : Nat) ≠ of; omega)
  | name t ht => exact base _ (.name t ht) (by show (4 : Nat) ≠ of; omega)
  | minus y hy _ => exact base _ (.minus y hy) (by show (4 : Nat) ≠ of; omega)
  | bin k y z h1 h2 hy hz iy _ =>
    by_cases hr : rnk (k : Int) = of
    · intro hD r ho
      have hk : (binE k y z).kind = (k : Int) := rfl
      have e1 : C (binE k y z) of = C y of ++ (3, sgn k, 0) :: C z (of + 1) := by
        unfold C cpw; rw [hk, if_neg (by omega), cb_bin k y z h1, hr]
        rw [show max of 2 = of by omega]; rfl
      have e2 : D (binE k y z) of = max (D y of) (D z (of + 1)) := by
        unfold D dpw; rw [hk, if_neg (by omega), dp_bin, hr]
        rw [show max of 2 = of by omega]; rfl
      rw [e2] at hD
      have hop := op_bin k h1 h2
      rw [e1, List.append_assoc, List.cons_append]
      rw [iy (by omega) _ (by
        intro o ha hb
        show opAt o (3, sgn k, 0) = none
        rw [hop o (by omega) hb, if_neg (by omega)])]
      rw [List.length_cons, more]
      have hop2 : opAt of (hd ((3, sgn k, 0) :: (C z (of + 1) ++ r))) = some k := by
        show opAt of (3, sgn k, 0) = some k
        rw [hop of (by omega) (by omega), if_pos hr]
      rw [hop2]
      simp only [List.tail_cons]
      rw [h z hz (by omega) r ho]
      simp only []
      exact more_fuel hc _ _ _ _ (by simp) (Nat.le_refl _)
    · exact base _ (.bin k y z h1 h2 hy hz) hr
theorem row_reads {of d : Nat} {part : P} (hof : of = 2 ∨ of = 3) (hc : Ctx part) (h : Reads part (of + 1) d) : Reads (row of part) of d := by
  intro x hx hD r ho
  rw [row_go hof hc h hx hD r (ho.up (by omega)), more_none (ho of (Nat.le_refl _) (by omega))]
theorem expr_reads {d : Nat} {f : P} (hc : Ctx f) (h : Reads f 4 d) : Reads (expr f) 1 d := by
  have hs : Reads (sum f) 2 d := row_reads (Or.inl rfl) (row_ctx hc) (row_reads (Or.inr rfl) hc h)
  have base : ∀ y, Wf y → rnk y.kind ≠ 1 → D y 1 ≤ d → ∀ r, Ok 1 r → expr f (C y 1 ++ r) = (some y, r) := by
    intro y hy hr hD r ho
    have hp := rnk_pos y.kind
    have e1 : C y 1 = C y 2 := by unfold C cpw; rw [if_neg (by omega), if_neg (by omega)]
    have e2 : D y 1 = D y 2 := by unfold D dpw; rw [if_neg (by omega), if_neg (by omega)]
    rw [e1]
    unfold expr
    rw [hs y hy (by rw [← e2]; exact hD) r (ho.up (by omega))]
    simp only [ho 1 (Nat.le_refl _) (by omega)]
  intro x hx
  cases hx with
  | num n hn => exact base _ (.num n hn) (by show (4 : Nat) ≠ 1; omega)
  | name t ht => exact base _ (.name t ht) (by show (4 : Nat) ≠ 1; omega)
  | minus y hy => exact base _ (.minus y hy) (by show (4 : Nat) ≠ 1; omega)
  | bin k y z h1 h2 hy hz =>
    by_cases hr : rnk (k : Int) = 1
    · intro hD r ho
      have hk : (binE k y z).kind = (k : Int) := rfl
      have e1 : C (binE k y z) 1 = C y 2 ++ (3, sgn k, 0) :: C z 2 := by
        unfold C cpw; rw [hk, if_neg (by omega), cb_bin k y z h1, hr]; rfl
      have e2 : D (binE k y z) 1 = max (D y 2) (D z 2) := by
        unfold D dpw; rw [hk, if_neg (by omega), dp_bin, hr]; rfl
      rw [e2] at hD
      have hop := op_bin k h1 h2
      rw [e1, List.append_assoc, List.cons_append]
      unfold expr
      rw [hs y hy (by omega) _ (by
        intro o ha hb
        show opAt o (3, sgn k, 0) = none
        rw [hop o (by omega) hb, if_neg (by omega)])]
      have hop2 : opAt 1 (Px.hd ((3, sgn k, 0) :: (C z 2 ++ r))) = some k := by
        show opAt 1 (3, sgn k, 0) = some k
        rw [hop 1 (by omega) (by omega), if_pos hr]
      simp only [hop2, List.tail_cons]
      rw [hs z hz (by omega) r (ho.up (by omega))]
    · exact base _ (.bin k y z h1 h2 hy hz) hr
theorem ok_shut (r : List Core) : Ok 1 ((3, [41], 0) :: r) := by
  intro of h1 h2
  show opAt of (3, [41], 0) = none
  match of, h1, h2 with
  | 1, _, _ => decide
  | 2, _, _ => decide
  | 3, _, _ => decide
theorem fac_reads : ∀ d, Reads (fac d) 4 d := by
  intro d
  induction d with
  | zero =>
    intro x hx hD r _
    cases hx with
    | num n hn => show fac 0 (cpw 1 (cb (numE n)) 4 ++ r) = _; rw [cb_num]; rfl
    | name t ht =>
      have : C (nameE t) 4 = [(1, t, 0)] := by unfold C cpw; rw [cb_name]; rfl
      rw [this, fac_zero, if_neg (by show ¬ (1 = 2); decide), if_pos ⟨rfl, ht⟩]; rfl
    | minus y hy =>
      have : D (minusE y) 4 = 1 + D y 4 := by unfold D dpw; rw [dp_minus]; rfl
      omega
    | bin k y z h1 h2 hy hz =>
      have := rnk_bin k h1 h2
      have e : D (binE k y z) 4 = 1 + dp (binE k y z) := by unfold D dpw; rw [if_pos (by show rnk (k : Int) < 4; omega)]
      omega
  | succ d ih =>
    intro x hx hD r _
    have hx' := hx
    cases hx with
    | num n hn => show fac (d + 1) (cpw 1 (cb (numE n)) 4 ++ r) = _; rw [cb_num, fac_succ]; rfl
    | name t ht =>
      have : C (nameE t) 4 = [(1, t, 0)] := by unfold C cpw; rw [cb_name]; rfl
      rw [this, fac_succ, if_neg (by show ¬ (1 = 2); decide), if_pos ⟨rfl, ht⟩]; rfl
    | minus y hy =>
      have e2 : D (minusE y) 4 = 1 + D y 4 := by unfold D dpw; rw [dp_minus]; rfl
      have e1 : C (minusE y) 4 = (3, [45], 0) :: C y 4 := by unfold C cpw; rw [cb_minus]; rfl
      rw [e1, fac_succ, List.cons_append, if_neg (by show ¬ (3 = 2); decide), if_neg (by intro c; exact absurd c.1 (by show ¬ (3 = 1); decide)), if_pos (by show isSg [45] (3, [45], 0) = true; decide)]
      unfold minus
      rw [List.tail_cons, ih y hy (by omega) r (fun of h1 h2 => by omega)]
    | bin k y z h1 h2 hy hz =>
      have hr := rnk_bin k h1 h2
      have e2 : D (binE k y z) 4 = 1 + dp (binE k y z) := by unfold D dpw; rw [if_pos (by show rnk (k : Int) < 4; omega)]
      have e1 : C (binE k y z) 4 = (3, [40], 0) :: (cb (binE k y z) ++ [(3, [41], 0)]) := by unfold C cpw; rw [if_pos (by show rnk (k : Int) < 4; omega)]
      have e3 : C (binE k y z) 1 = cb (binE k y z) := by unfold C cpw; rw [if_neg (by show ¬ rnk (k : Int) < 1; omega)]
      have e4 : D (binE k y z) 1 = dp (binE k y z) := by unfold D dpw; rw [if_neg (by show ¬ rnk (k : Int) < 1; omega)]
      rw [e1, fac_succ, List.cons_append, if_neg (by show ¬ (3 = 2); decide), if_neg (by intro c; exact absurd c.1 (by show ¬ (3 = 1); decide)), if_neg (by show ¬ (isSg [45] (3, [40], 0) = true); decide), if_pos (by show isSg [40] (3, [40], 0) = true; decide)]
      unfold paren
      rw [List.tail_cons, List.append_assoc, ← e3, show ([(3, [41], 0)] ++ r : List Core) = (3, [41], 0) :: r from rfl]
      rw [expr_reads (fac_ctx d) ih _ hx' (by omega) _ (ok_shut r)]
      simp only []
      rw [if_pos (by show isSg [41] (3, [41], 0) = true; decide)]
      rfl
/-! ### What was read can be written -/
theorem T_low (x : Ex) {l l' : Nat} (h : l ≤ l') : (T x l).length ≤ (T x l').length ∧ (T x l').length ≤ (T x l).length + 2 ∧ D x l ≤ D x l' ∧ D x l' ≤ D x l + 1 := by
  unfold T D tpw dpw
  by_cases c1 : rnk x.kind < l
  · rw [if_pos c1, if_pos (by omega), if_pos c1, if_pos (by omega)]; omega
  · by_cases c2 : rnk x.kind < l'
    · rw [if_neg c1, if_pos c2, if_neg c1, if_pos c2]; simp only [List.length_cons, List.length_append, List.length_nil]; omega
    · rw [if_neg c1, if_neg c2, if_neg c1, if_neg c2]; omega
end Px
end Go.Proofs.Ytnfkjmafhaecgaa
namespace Go.Proofs.Ytnfkjmafhaecgaa
namespace Px
open Lx (Core)
/-! ### Tokens, and how they are read -/
theorem cr_toks {l : List UInt8} {cs : List Core} (hl : l.length ≤ 6000) (h : Lx.cr l = some cs) : ∃ ts, Lx.toks l = .good ts ∧ ts.map Lx.Tk.core = cs := by
  unfold Lx.cr at h
  unfold Lx.toks
  rw [if_neg (by omega)]
  cases hr : Lx.run (l.length + 1) 0 l with
  | bad p => rw [hr] at h; cases h
  | good ts => rw [hr] at h; cases h; exact ⟨ts, rfl, rfl⟩
theorem Wf.fit {x : Ex} (h : Wf x) : x.fit := by
  induction h with
  | num n hn => rw [Ex.fit_eq]; exact ⟨⟨by show _ ≤ (n : Int); omega, by show (n : Int) ≤ _; omega, by show (0 : Nat) ≤ 12; decide⟩, trivial⟩
  | name t ht =>
    rw [Ex.fit_eq]
    refine ⟨⟨by show _ ≤ (0 : Int); decide, by show (0 : Int) ≤ _; decide, ?_⟩, trivial⟩
    show (ba t).size ≤ 12
    unfold isNm at ht
    simp only [Bool.and_eq_true] at ht
    cases t with
    | nil => simp [ba, ByteArray.size]
    | cons c r =>
      have := ht.1
      simp only [Lx.isWord, Bool.and_eq_true, decide_eq_true_eq] at this
      simp [ba, ByteArray.size]; omega
  | minus y _ ih => rw [Ex.fit_eq]; exact ⟨⟨by show _ ≤ (0 : Int); decide, by show (0 : Int) ≤ _; decide, by show (0 : Nat) ≤ 12; decide⟩, by show Ex.fits [y]; rw [Ex.fits]; exact ⟨ih, trivial⟩⟩
  | bin k y z _ _ _ _ iy iz => rw [Ex.fit_eq]; exact ⟨⟨by show _ ≤ (0 : Int); decide, by show (0 : Int) ≤ _; decide, by show (0 : Nat) ≤ 12; decide⟩, by show Ex.fits [y, z]; rw [Ex.fits, Ex.fits]; exact ⟨iy, iz, trivial⟩⟩
/-! ### Parentheses -/
end Px
end Go.Proofs.Ytnfkjmafhaecgaa
