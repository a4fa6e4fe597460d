/- PlA -/
import Derived.Test.YtnfkjmafhaecgaaZLxA
import Derived.Test.YtnfkjmafhaecgaaZKpA
import Derived.Lib.ItoaLen

namespace Go.Proofs.Ytnfkjmafhaecgaa
namespace Px
open Lx (Core)
def ba (l : List UInt8) : ByteArray := ⟨l.toArray⟩
abbrev e0 : ByteArray := ⟨#[]⟩
def numE (n : Nat) : Ex := .mk 1 n e0 []
def nameE (t : List UInt8) : Ex := .mk 2 0 (ba t) []
def minusE (e : Ex) : Ex := .mk 3 0 e0 [e]
def binE (k : Nat) (a b : Ex) : Ex := .mk k 0 e0 [a, b]
def rnk (k : Int) : Nat := if k = 9 ∨ k = 10 then 1 else if k = 4 ∨ k = 5 then 2 else if k = 6 ∨ k = 7 ∨ k = 8 then 3 else 4
def sgn (k : Int) : List UInt8 := if k = 4 then [43] else if k = 5 then [45] else if k = 6 then [42] else if k = 7 then [47] else if k = 8 then [37] else if k = 9 then [60] else if k = 10 then [61, 61] else []
def kws : List (List UInt8) := [[118, 97, 114], [119, 105, 100, 101], [97, 116, 111, 109, 105, 99], [108, 111, 99, 97, 108], [109, 117, 116, 101, 120], [99, 104, 97, 110],
  [103, 111], [108, 111, 99, 107], [117, 110, 108, 111, 99, 107], [115, 101, 110, 100], [114, 101, 99, 118], [112, 114, 105, 110, 116], [105, 102], [101, 108, 115, 101], [114, 101, 112, 101, 97, 116], [103, 111, 116, 111], [108, 97, 98, 101, 108]]
def isNm (t : List UInt8) : Bool := Lx.isWord t && !(kws.any (t == ·))
/-- The operator that the token is, if it is one of that rank. -/
def opAt (of : Nat) (t : Core) : Option Nat := if t.1 = 3 then [4, 5, 6, 7, 8, 9, 10].find? (fun k => (rnk (k : Nat) == of) && (t.2.1 == sgn (k : Nat))) else none
def isSg (x : List UInt8) (t : Core) : Bool := (t.1 == 3) && (t.2.1 == x)
def hd (l : List Core) : Core := l.headD (4, [], 0)
abbrev P := List Core → Option Ex × List Core
def more (of : Nat) (part : P) : Nat → Ex → P
  | 0, e, l => (some e, l)
  | f + 1, e, l => match opAt of (hd l) with
    | none => (some e, l)
    | some k => match part l.tail with
      | (none, m) => (none, m)
      | (some r, m) => more of part f (binE k e r) m
def row (of : Nat) (part : P) : P := fun l => match part l with
  | (none, m) => (none, m)
  | (some e, m) => more of part m.length e m
def sum (f : P) : P := row 2 (row 3 f)
def expr (f : P) : P := fun l => match sum f l with
  | (none, m) => (none, m)
  | (some e, m) => match opAt 1 (hd m) with
    | none => (some e, m)
    | some k => match sum f m.tail with
      | (none, m') => (none, m')
      | (some r, m') => (some (binE k e r), m')
def minus (f : P) : P := fun l => match f l with
  | (none, m) => (none, m)
  | (some e, m) => (some (minusE e), m)
def paren (f : P) : P := fun l => match expr f l with
  | (none, m) => (none, m)
  | (some e, m) => if isSg [41] (hd m) then (some e, m.tail) else (none, m)
def fac : Nat → P
  | d, l => if (hd l).1 = 2 then (some (numE (hd l).2.2), l.tail)
    else if (hd l).1 = 1 ∧ isNm (hd l).2.1 = true then (some (nameE (hd l).2.1), l.tail)
    else match d with
    | 0 => (none, l)
    | d + 1 => if isSg [45] (hd l) then minus (fac d) l.tail else if isSg [40] (hd l) then paren (fac d) l.tail else (none, l)
theorem fac_zero (l : List Core) : fac 0 l = if (hd l).1 = 2 then (some (numE (hd l).2.2), l.tail) else if (hd l).1 = 1 ∧ isNm (hd l).2.1 = true then (some (nameE (hd l).2.1), l.tail) else (none, l) := by rw [fac]
theorem fac_succ (d : Nat) (l : List Core) : fac (d + 1) l = if (hd l).1 = 2 then (some (numE (hd l).2.2), l.tail) else if (hd l).1 = 1 ∧ isNm (hd l).2.1 = true then (some (nameE (hd l).2.1), l.tail) else
   if isSg [45] (hd l) then minus (fac d) l.tail else if isSg [40] (hd l) then paren (fac d) l.tail else (none, l) := by rw [fac]
/-! ### Where a reading ends -/
theorem opAt_hd {of : Nat} {l : List Core} {k : Nat} (h : opAt of (hd l) = some k) : (hd l).1 = 3 := by
  unfold opAt at h
  split at h
  · assumption
  · cases h
theorem isSg_hd {x : List UInt8} {l : List Core} (h : isSg x (hd l) = true) : (hd l).1 = 3 := by
  simp [isSg] at h; exact h.1
/-- What is left is the end of what there was. -/
def Suf (part : P) : Prop := ∀ l, (part l).2 <:+ l
theorem suf_tail (l : List Core) : l.tail <:+ l := List.tail_suffix l
theorem more_suf {of : Nat} {part : P} (h : Suf part) : ∀ f e l, (more of part f e l).2 <:+ l := by
  intro f
  induction f with
  | zero => intro e l; exact List.suffix_refl _
  | succ f ih =>
    intro e l
    rw [more]
    cases opAt of (hd l) with
    | none => exact List.suffix_refl _
    | some k =>
      have := h l.tail
      cases hp : part l.tail with
      | mk o m =>
        rw [hp] at this
        cases o with
        | none => exact this.trans (suf_tail l)
        | some r => exact (ih _ m).trans (this.trans (suf_tail l))
theorem row_suf {of : Nat} {part : P} (h : Suf part) : Suf (row of part) := by
  intro l
  have := h l
  unfold row
  cases hp : part l with
  | mk o m =>
    rw [hp] at this
    cases o with
    | none => exact this
    | some e => exact (more_suf h _ _ _).trans this
theorem expr_suf {f : P} (h : Suf f) : Suf (expr f) := by
  have hs : Suf (sum f) := row_suf (row_suf h)
  intro l
  have h1 := hs l
  unfold expr
  cases hp : sum f l with
  | mk o m =>
    rw [hp] at h1
    cases o with
    | none => exact h1
    | some e =>
      cases hk : opAt 1 (hd m) with
      | none => simp only [hk]; exact h1
      | some k =>
        simp only [hk]
        have h2 := hs m.tail
        cases hq : sum f m.tail with
        | mk o m' =>
          rw [hq] at h2
          cases o with
          | none => exact h2.trans ((suf_tail m).trans h1)
          | some r => exact h2.trans ((suf_tail m).trans h1)
theorem minus_suf {f : P} (h : Suf f) : Suf (minus f) := by
  intro l
  have h1 := h l
  unfold minus
  cases hp : f l with
  | mk o m => rw [hp] at h1; cases o <;> exact h1
theorem paren_suf {f : P} (h : Suf f) : Suf (paren f) := by
  intro l
  have h1 := expr_suf h l
  unfold paren
  cases hp : expr f l with
  | mk o m =>
    rw [hp] at h1
    cases o with
    | none => exact h1
    | some e =>
      simp only []
      split
      · exact (suf_tail m).trans h1
      · exact h1
theorem fac_suf : ∀ d, Suf (fac d) := by
  intro d
  induction d with
  | zero =>
    intro l
    rw [fac_zero]
    split
    · exact suf_tail l
    · split
      · exact suf_tail l
      · exact List.suffix_refl _
  | succ d ih =>
    intro l
    rw [fac_succ]
    split
    · exact suf_tail l
    · split
      · exact suf_tail l
      · split
        · exact (minus_suf ih _).trans (suf_tail l)
        · split
          · exact (paren_suf ih _).trans (suf_tail l)
          · exact List.suffix_refl _
/-! ### What a reading needs: what it has read, and which operator follows -/
/-- The same operator follows, or none. -/
def View (m m' : List Core) : Prop := ∀ of, opAt of (hd m') = opAt of (hd m)
theorem View.refl (m : List Core) : View m m := fun _ => rfl
theorem more_none {of : Nat} {part : P} {f : Nat} {e : Ex} {l : List Core} (h : opAt of (hd l) = none) : more of part f e l = (some e, l) := by
  cases f with
  | zero => rfl
  | succ f => rw [more, h]
/-! ### Deeper -/
end Px
end Go.Proofs.Ytnfkjmafhaecgaa
namespace Go.Proofs.Ytnfkjmafhaecgaa
namespace Ex
mutual
/-- Numbers that fit, short names. -/
def fit : Ex → Prop
  | .mk _ n s l => (-9223372036854775808 ≤ n ∧ n ≤ 9223372036854775807 ∧ s.size ≤ 12) ∧ fits l
def fits : List Ex → Prop
  | [] => True
  | a :: l => fit a ∧ fits l
end
theorem fit_eq (x : Ex) : fit x ↔ (-9223372036854775808 ≤ x.n ∧ x.n ≤ 9223372036854775807 ∧ x.name.size ≤ 12) ∧ fits x.of := by cases x; rw [fit]; rfl
end Ex
namespace Px
/-- In parentheses, if it ranks below; nothing more once it is too long. -/
def wrap (k : Int) (f : List UInt8 → List UInt8) (acc : List UInt8) (least : Nat) : List UInt8 :=
  if 6000 < acc.length then acc else if rnk k < least then f (acc ++ [40]) ++ [41] else f acc
def wb : Ex → (List UInt8 → List UInt8)
  | .mk k n s l => fun acc =>
    if k = 1 then acc ++ Lib.itoa n else if k = 2 then acc ++ s.data.toList else
    match l with
    | [y] => if k = 3 then wrap y.kind (wb y) (acc ++ [45]) 4 else acc
    | [y, z] => if sgn k = [] then acc else wrap z.kind (wb z) (wrap y.kind (wb y) acc (max (rnk k) 2) ++ [32] ++ sgn k ++ [32]) (rnk k + 1)
    | _ => acc
def wr (x : Ex) (acc : List UInt8) (least : Nat) : List UInt8 := wrap x.kind (wb x) acc least
end Px
end Go.Proofs.Ytnfkjmafhaecgaa
namespace Go.Proofs.Ytnfkjmafhaecgaa
namespace Px
open Lx (Core)
/-- How a list of tokens is read, from its first one on. -/
abbrev read (l : List Core) : Option Ex × List Core := expr (fac 8) l
theorem read_suf (l : List Core) : (read l).2 <:+ l := expr_suf (fac_suf 8) l
/-- The end of the tokens of a text. -/
theorem run_end (f : Nat) : ∀ (p : Nat) (l : List UInt8) (ts : List Lx.Tk), Lx.run f p l = .good ts → ∃ t ∈ ts, t.kind = 4 := by
  induction f with
  | zero => intro p l ts h; cases h
  | succ f ih =>
    intro p l ts h
    cases l with
    | nil => simp [Lx.run] at h; rw [← h]; exact ⟨_, List.mem_cons_self .., rfl⟩
    | cons c r =>
      rw [Lx.run_cons] at h
      split at h
      · exact ih _ _ _ h
      · split at h
        · exact ih _ _ _ h
        · cases ho : Lx.one (c :: r) with
          | none => rw [ho] at h; cases h
          | some x =>
            obtain ⟨k, len, n⟩ := x
            rw [ho] at h
            simp only [] at h
            cases hr : Lx.run f (p + len) ((c :: r).drop len) with
            | bad q => rw [hr] at h; cases h
            | good us =>
              rw [hr] at h
              simp only [Lx.Out.pre, Lx.Out.good.injEq] at h
              obtain ⟨t, ht, hk⟩ := ih _ _ _ hr
              exact ⟨t, by rw [← h]; exact List.mem_append_right _ ht, hk⟩
theorem toks_end {l : List UInt8} {ts : List Lx.Tk} (h : Lx.toks l = .good ts) : ∃ t ∈ ts, t.kind = 4 := by
  unfold Lx.toks at h
  split at h
  · cases h
  · exact run_end _ _ _ _ h
theorem toks_ne (l : List UInt8) (ts : List Lx.Tk) (h : Lx.toks l = .good ts) : ts ≠ [] := by
  unfold Lx.toks at h
  split at h
  · cases h
  · exact Lx.run_ne _ _ _ _ h
theorem run_count (f : Nat) : ∀ (p : Nat) (l : List UInt8) (ts : List Lx.Tk), Lx.run f p l = .good ts → ts.length ≤ l.length + 1 := by
  induction f with
  | zero => intro p l ts h; cases h
  | succ f ih =>
    intro p l ts h
    cases l with
    | nil => simp [Lx.run] at h; subst h; simp
    | cons c r =>
      rw [Lx.run_cons] at h
      split at h
      · have := ih _ _ _ h; simp; omega
      · split at h
        · have := ih _ _ _ h
          rw [List.length_drop] at this
          simp; omega
        · cases ho : Lx.one (c :: r) with
          | none => rw [ho] at h; cases h
          | some x =>
            obtain ⟨k, len, n⟩ := x
            have hl := Lx.one_len ho
            rw [ho] at h
            simp only [] at h
            cases hr : Lx.run f (p + len) ((c :: r).drop len) with
            | bad q => rw [hr] at h; cases h
            | good us =>
              rw [hr] at h
              simp only [Lx.Out.pre, Lx.Out.good.injEq] at h
              subst h
              have := ih _ _ _ hr
              rw [List.length_drop] at this
              simp only [List.length_append, List.length_singleton]
              omega
theorem toks_count (l : List UInt8) (ts : List Lx.Tk) (h : Lx.toks l = .good ts) : ts.length ≤ 6001 := by
  unfold Lx.toks at h
  split at h
  · cases h
  · have := run_count _ _ _ _ h; omega
/-- The text of an expression; none if that is not read as it again. -/
def print (x : Ex) : List UInt8 :=
  match Lx.toks (wr x [] 1) with
  | .bad _ => []
  | .good ts => match read (ts.map Lx.Tk.core) with
    | (none, _) => []
    | (some y, m) => if (hd m).1 = 4 ∧ y.same x = true then wr x [] 1 else []
end Px
end Go.Proofs.Ytnfkjmafhaecgaa
namespace Go.Proofs.Ytnfkjmafhaecgaa
namespace Px
open Lx (Core)
/-- Expressions that a text can say. -/
inductive Wf : Ex → Prop where
  | num (n : Nat) : n < 9223372036854775808 → Wf (numE n)
  | name (t : List UInt8) : isNm t = true → Wf (nameE t)
  | minus (y : Ex) : Wf y → Wf (minusE y)
  | bin (k : Nat) (y z : Ex) : 4 ≤ k → k ≤ 10 → Wf y → Wf z → Wf (binE k y z)
def tpw (k : Int) (t : List UInt8) (least : Nat) : List UInt8 := if rnk k < least then 40 :: (t ++ [41]) else t
def tb : Ex → List UInt8
  | .mk k n s l => if k = 1 then Lib.itoa n else if k = 2 then s.data.toList else
    match l with
    | [y] => 45 :: tpw y.kind (tb y) 4
    | [y, z] => tpw y.kind (tb y) (max (rnk k) 2) ++ 32 :: (sgn k ++ 32 :: tpw z.kind (tb z) (rnk k + 1))
    | _ => []
def cpw (k : Int) (c : List Core) (least : Nat) : List Core := if rnk k < least then (3, [40], 0) :: (c ++ [(3, [41], 0)]) else c
def cb : Ex → List Core
  | .mk k n s l => if k = 1 then [(2, Lib.itoa n, n.toNat)] else if k = 2 then [(1, s.data.toList, 0)] else
    match l with
    | [y] => (3, [45], 0) :: cpw y.kind (cb y) 4
    | [y, z] => cpw y.kind (cb y) (max (rnk k) 2) ++ (3, sgn k, 0) :: cpw z.kind (cb z) (rnk k + 1)
    | _ => []
def dpw (k : Int) (d : Nat) (least : Nat) : Nat := if rnk k < least then 1 + d else d
def dp : Ex → Nat
  | .mk k _ _ l =>
    match l with
    | [y] => 1 + dpw y.kind (dp y) 4
    | [y, z] => max (dpw y.kind (dp y) (max (rnk k) 2)) (dpw z.kind (dp z) (rnk k + 1))
    | _ => 0
abbrev T (x : Ex) (l : Nat) : List UInt8 := tpw x.kind (tb x) l
abbrev C (x : Ex) (l : Nat) : List Core := cpw x.kind (cb x) l
abbrev D (x : Ex) (l : Nat) : Nat := dpw x.kind (dp x) l
theorem tb_num (n : Nat) : tb (numE n) = Lib.itoa n := by unfold numE; rw [tb.eq_def]; simp
theorem tb_name (t : List UInt8) : tb (nameE t) = t := by unfold nameE; rw [tb.eq_def]; simp [ba]
theorem tb_minus (y : Ex) : tb (minusE y) = 45 :: T y 4 := by unfold minusE; rw [tb.eq_def]; simp
theorem dp_num (n : Nat) : dp (numE n) = 0 := by unfold numE; rw [dp.eq_def]
theorem dp_name (t : List UInt8) : dp (nameE t) = 0 := by unfold nameE; rw [dp.eq_def]
theorem dp_minus (y : Ex) : dp (minusE y) = 1 + D y 4 := by unfold minusE; rw [dp.eq_def]
theorem k12 {k : Nat} (h : 4 ≤ k) : ¬ ((k : Int) = 1) ∧ ¬ ((k : Int) = 2) := ⟨by omega, by omega⟩
theorem tb_bin (k : Nat) (y z : Ex) (h : 4 ≤ k) : tb (binE k y z) = T y (max (rnk k) 2) ++ 32 :: (sgn k ++ 32 :: T z (rnk k + 1)) := by
  unfold binE; rw [tb.eq_def]; simp only [(k12 h).1, (k12 h).2, if_false]
theorem dp_bin (k : Nat) (y z : Ex) : dp (binE k y z) = max (D y (max (rnk k) 2)) (D z (rnk k + 1)) := by
  unfold binE; rw [dp.eq_def]
theorem seven {P : Nat → Prop} (h4 : P 4) (h5 : P 5) (h6 : P 6) (h7 : P 7) (h8 : P 8) (h9 : P 9) (h10 : P 10) : ∀ k, 4 ≤ k → k ≤ 10 → P k := by
  intro k h1 h2
  match k, h1, h2 with
  | 4, _, _ => exact h4
  | 5, _, _ => exact h5
  | 6, _, _ => exact h6
  | 7, _, _ => exact h7
  | 8, _, _ => exact h8
  | 9, _, _ => exact h9
  | 10, _, _ => exact h10
theorem rnk_bin : ∀ k : Nat, 4 ≤ k → k ≤ 10 → 1 ≤ rnk (k : Int) ∧ rnk (k : Int) ≤ 3 := seven (by decide) (by decide) (by decide) (by decide) (by decide) (by decide) (by decide)
/-! ### Written out -/
/-! ### Numbers -/
/-! ### Tokens of what is written -/
end Px
end Go.Proofs.Ytnfkjmafhaecgaa
namespace Go.Proofs.Ytnfkjmafhaecgaa
namespace Px
open Lx (Core)
/-! ### What is written is read -/
def Ok (l : Nat) (r : List Core) : Prop := ∀ of, l ≤ of → of ≤ 3 → opAt of (hd r) = none
theorem Ok.up {l l' : Nat} {r : List Core} (h : Ok l r) (hl : l ≤ l') : Ok l' r := fun of h1 h2 => h of (Nat.le_trans hl h1) h2
/-! ### What was read can be written -/
theorem T_low (x : Ex) {l l' : Nat} (h : l ≤ l') : (T x l).length ≤ (T x l').length ∧ (T x l').length ≤ (T x l).length + 2 ∧ D x l ≤ D x l' ∧ D x l' ≤ D x l + 1 := by
  unfold T D tpw dpw
  by_cases c1 : rnk x.kind < l
  · rw [if_pos c1, if_pos (by omega), if_pos c1, if_pos (by omega)]; omega
  · by_cases c2 : rnk x.kind < l'
    · rw [if_neg c1, if_pos c2, if_neg c1, if_pos c2]; simp only [List.length_cons, List.length_append, List.length_nil]; omega
    · rw [if_neg c1, if_neg c2, if_neg c1, if_neg c2]; omega
end Px
end Go.Proofs.Ytnfkjmafhaecgaa
namespace Go.Proofs.Ytnfkjmafhaecgaa
namespace Px
open Lx (Core)
/-! ### Tokens, and how they are read -/
theorem Wf.fit {x : Ex} (h : Wf x) : x.fit := by
  induction h with
  | num n hn => rw [Ex.fit_eq]; exact ⟨⟨by show _ ≤ (n : Int); omega, by show (n : Int) ≤ _; omega, by show (0 : Nat) ≤ 12; decide⟩, trivial⟩
  | name t ht =>
    rw [Ex.fit_eq]
    refine ⟨⟨by show _ ≤ (0 : Int); decide, by show (0 : Int) ≤ _; decide, ?_⟩, trivial⟩
    show (ba t).size ≤ 12
    unfold isNm at ht
    simp only [Bool.and_eq_true] at ht
    cases t with
    | nil => simp [ba, ByteArray.size]
    | cons c r =>
      have := ht.1
      simp only [Lx.isWord, Bool.and_eq_true, decide_eq_true_eq] at this
      simp [ba, ByteArray.size]; omega
  | minus y _ ih => rw [Ex.fit_eq]; exact ⟨⟨by show _ ≤ (0 : Int); decide, by show (0 : Int) ≤ _; decide, by show (0 : Nat) ≤ 12; decide⟩, by show Ex.fits [y]; rw [Ex.fits]; exact ⟨ih, trivial⟩⟩
  | bin k y z _ _ _ _ iy iz => rw [Ex.fit_eq]; exact ⟨⟨by show _ ≤ (0 : Int); decide, by show (0 : Int) ≤ _; decide, by show (0 : Nat) ≤ 12; decide⟩, by show Ex.fits [y, z]; rw [Ex.fits, Ex.fits]; exact ⟨iy, iz, trivial⟩⟩
/-! ### Parentheses -/
end Px
end Go.Proofs.Ytnfkjmafhaecgaa
