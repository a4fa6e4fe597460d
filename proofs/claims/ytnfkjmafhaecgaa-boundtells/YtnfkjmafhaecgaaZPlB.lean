/- PlB -/
import Derived.Test.YtnfkjmafhaecgaaZPlA

namespace Go.Proofs.Ytnfkjmafhaecgaa
namespace Pp
open Lx (Core)
open Px (hd isNm ba e0)
abbrev R (α : Type) := List Core → Option α × List Core
def ret {α : Type} (x : α) : R α := fun l => (some x, l)
def bind {α β : Type} (p : R α) (f : α → R β) : R β := fun l => match p l with
  | (none, m) => (none, m)
  | (some x, m) => f x m
theorem bind_none {α β : Type} {p : R α} {f : α → R β} {l m : List Core} (h : p l = (none, m)) : bind p f l = (none, m) := by unfold bind; rw [h]
theorem bind_some {α β : Type} {p : R α} {f : α → R β} {l m : List Core} {x : α} (h : p l = (some x, m)) : bind p f l = f x m := by unfold bind; rw [h]
def name : R (List UInt8) := fun l => if isNm (hd l).2.1 then (some (hd l).2.1, l.tail) else (none, l)
def skip (t : List UInt8) : R Unit := fun l => if (hd l).2.1 = t then (some (), l.tail) else (none, l)
def number (most : Nat) : R Nat := fun l => if (hd l).1 = 2 ∧ (hd l).2.2 ≤ most then (some (hd l).2.2, l.tail) else (none, l)
/-- The kind of the statement whose first word is that. -/
def sk (t : List UInt8) : Nat :=
  if t = [108, 111, 99, 107] then 2 else if t = [117, 110, 108, 111, 99, 107] then 3 else if t = [115, 101, 110, 100] then 4 else if t = [114, 101, 99, 118] then 5
  else if t = [112, 114, 105, 110, 116] then 6 else if t = [105, 102] then 7 else if t = [114, 101, 112, 101, 97, 116] then 8 else if t = [103, 111, 116, 111] then 9 else if t = [108, 97, 98, 101, 108] then 10 else 1
/-- The kind of the declaration whose first word is that; 0 of none. -/
def dk (t : List UInt8) : Nat :=
  if t = [118, 97, 114] then 1 else if t = [119, 105, 100, 101] then 2 else if t = [97, 116, 111, 109, 105, 99] then 3 else if t = [108, 111, 99, 97, 108] then 4
  else if t = [109, 117, 116, 101, 120] then 5 else if t = [99, 104, 97, 110] then 6 else 0
abbrev tGo : List UInt8 := [103, 111]
abbrev tElse : List UInt8 := [101, 108, 115, 101]
abbrev tOpen : List UInt8 := [123]
abbrev tShut : List UInt8 := [125]
abbrev tIs : List UInt8 := [61]
/-- Where a statement begins, by how many tokens are left. -/
abbrev Pl := Nat → Nat × Nat
/-- An else, perhaps. -/
def other (blk : R (List St)) : R (List St) := fun m => if (hd m).2.1 = tElse then blk m.tail else (some [], m)
/-- What stands behind a keyword. -/
def behind (blk : R (List St)) (k : Nat) (p : Nat × Nat) : R St :=
  if k = 4 then bind name fun a => bind Px.read fun e => ret (.mk 4 (ba a) e0 0 e [] [] p.1 p.2)
  else if k = 5 then bind name fun a => bind name fun b => ret (.mk 5 (ba a) (ba b) 0 ex0 [] [] p.1 p.2)
  else if k = 6 then bind Px.read fun e => ret (.mk 6 e0 e0 0 e [] [] p.1 p.2)
  else if k = 7 then bind Px.read fun e => bind blk fun b => bind (other blk) fun c => ret (.mk 7 e0 e0 0 e b c p.1 p.2)
  else if k = 8 then bind (number 9) fun n => bind blk fun b => ret (.mk 8 e0 e0 n ex0 b [] p.1 p.2)
  else bind name fun a => ret (.mk k (ba a) e0 0 ex0 [] [] p.1 p.2)
/-- An assignment. -/
def assign (p : Nat × Nat) : R St := bind name fun a => bind (skip tIs) fun _ => bind Px.read fun e => ret (.mk 1 (ba a) e0 0 e [] [] p.1 p.2)
def stmt (pl : Pl) (blk : R (List St)) : R St := fun l => if sk (hd l).2.1 = 1 then assign (pl l.length) l else behind blk (sk (hd l).2.1) (pl l.length) l.tail
def stmts (sp : R St) : Nat → List St → R (List St)
  | 0, _, l => (none, l)
  | f + 1, acc, l => if (hd l).2.1 = tShut then (some acc, l.tail) else match sp l with
    | (none, m) => (none, m)
    | (some s, m) => stmts sp f (acc ++ [s]) m
/-- A block, with so many more within one another. -/
def block (pl : Pl) : Nat → R (List St)
  | 0, l => (none, l)
  | e + 1, l => if (hd l).2.1 = tOpen then stmts (stmt pl (block pl e)) (l.tail.length + 1) [] l.tail else (none, l)
def decl (pl : Pl) : R Dc := fun l =>
  if dk (hd l).2.1 = 6 then bind name (fun a => bind (number 3) fun n => ret ⟨6, ba a, n, (pl l.length).1, (pl l.length).2⟩) l.tail
  else bind name (fun a => ret ⟨dk (hd l).2.1, ba a, 0, (pl l.length).1, (pl l.length).2⟩) l.tail
def decls (pl : Pl) : Nat → List Dc → R (List Dc)
  | 0, acc, l => (some acc, l)
  | f + 1, acc, l => if dk (hd l).2.1 = 0 then (some acc, l) else match decl pl l with
    | (none, m) => (none, m)
    | (some d, m) => decls pl f (acc ++ [d]) m
def threads (pl : Pl) : Nat → List (List St) → R (List (List St))
  | 0, acc, l => (some acc, l)
  | f + 1, acc, l => if (hd l).2.1 = tGo then (match block pl 8 l.tail with
    | (none, m) => (none, m)
    | (some b, m) => threads pl f (acc ++ [b]) m) else (some acc, l)
def ended (d : List Dc) (t : List (List St)) : R (List Dc × List (List St)) := fun l => if t ≠ [] ∧ (hd l).1 = 4 then (some (d, t), l) else (none, l)
def prog (pl : Pl) : R (List Dc × List (List St)) := bind (decls pl 24 []) fun d => bind (threads pl 4 []) fun t => ended d t
/-! ### The end of the text stays -/
def Alive (l : List Core) : Prop := ∃ t ∈ l, t.1 = 4 ∧ t.2.1 = []
theorem Alive.ne {l : List Core} (h : Alive l) : l ≠ [] := by
  obtain ⟨t, ht, _⟩ := h
  rintro rfl; cases ht
theorem Alive.pos {l : List Core} (h : Alive l) : 0 < l.length := List.length_pos_iff.2 h.ne
theorem Alive.tail {l : List Core} (h : Alive l) (hn : (hd l).1 ≠ 4 ∨ (hd l).2.1 ≠ []) : Alive l.tail := by
  obtain ⟨t, ht, h4, h5⟩ := h
  cases l with
  | nil => cases ht
  | cons a l =>
    rcases List.mem_cons.1 ht with rfl | ht
    · rcases hn with hn | hn
      · exact absurd h4 hn
      · exact absurd h5 hn
    · exact ⟨t, ht, h4, h5⟩
/-- What is left is the end of what there was, and has its end. -/
def Keeps {α : Type} (p : R α) : Prop := ∀ l, Alive l → (p l).2 <:+ l ∧ Alive (p l).2
theorem Keeps.ret {α : Type} (x : α) : Keeps (ret x) := fun _ h => ⟨List.suffix_refl _, h⟩
theorem Keeps.bind {α β : Type} {p : R α} {f : α → R β} (hp : Keeps p) (hf : ∀ x, Keeps (f x)) : Keeps (bind p f) := by
  intro l h
  obtain ⟨h1, h2⟩ := hp l h
  unfold Pp.bind
  cases hc : p l with
  | mk o m =>
    rw [hc] at h1 h2
    cases o with
    | none => exact ⟨h1, h2⟩
    | some x =>
      obtain ⟨h3, h4⟩ := hf x m h2
      exact ⟨h3.trans h1, h4⟩
theorem isNm_ne {t : List UInt8} (h : isNm t = true) : t ≠ [] := by rintro rfl; cases h
theorem name_keeps : Keeps name := by
  intro l h
  unfold name
  split
  · rename_i hn; exact ⟨List.tail_suffix _, h.tail (.inr (isNm_ne hn))⟩
  · exact ⟨List.suffix_refl _, h⟩
theorem skip_keeps {t : List UInt8} (ht : t ≠ []) : Keeps (skip t) := by
  intro l h
  unfold skip
  split
  · rename_i hn; exact ⟨List.tail_suffix _, h.tail (.inr (by rw [hn]; exact ht))⟩
  · exact ⟨List.suffix_refl _, h⟩
theorem number_keeps (n : Nat) : Keeps (number n) := by
  intro l h
  unfold number
  split
  · rename_i hn; exact ⟨List.tail_suffix _, h.tail (.inl (by rw [hn.1]; decide))⟩
  · exact ⟨List.suffix_refl _, h⟩
theorem more_alive {of : Nat} {part : Px.P} (h : ∀ l, Alive l → Alive (part l).2) : ∀ f e l, Alive l → Alive (Px.more of part f e l).2 := by
  intro f
  induction f with
  | zero => intro e l ha; exact ha
  | succ f ih =>
    intro e l ha
    rw [Px.more]
    cases ho : Px.opAt of (hd l) with
    | none => exact ha
    | some k =>
      have h1 := h l.tail (ha.tail (.inl (by rw [Px.opAt_hd ho]; decide)))
      simp only []
      cases hp : part l.tail with
      | mk o m =>
        rw [hp] at h1
        cases o with
        | none => exact h1
        | some r => exact ih _ m h1
theorem row_alive {of : Nat} {part : Px.P} (h : ∀ l, Alive l → Alive (part l).2) : ∀ l, Alive l → Alive (Px.row of part l).2 := by
  intro l ha
  have h1 := h l ha
  unfold Px.row
  cases hp : part l with
  | mk o m =>
    rw [hp] at h1
    cases o with
    | none => exact h1
    | some e => exact more_alive h _ _ _ h1
theorem expr_alive {f : Px.P} (h : ∀ l, Alive l → Alive (f l).2) : ∀ l, Alive l → Alive (Px.expr f l).2 := by
  have hs : ∀ l, Alive l → Alive (Px.sum f l).2 := row_alive (row_alive h)
  intro l ha
  have h1 := hs l ha
  unfold Px.expr
  cases hp : Px.sum f l with
  | mk o m =>
    rw [hp] at h1
    cases o with
    | none => exact h1
    | some e =>
      cases hk : Px.opAt 1 (hd m) with
      | none => simp only [hk]; exact h1
      | some k =>
        simp only [hk]
        have h2 := hs m.tail (h1.tail (.inl (by rw [Px.opAt_hd hk]; decide)))
        cases hq : Px.sum f m.tail with
        | mk o m' => rw [hq] at h2; cases o <;> exact h2
theorem fac_alive : ∀ d l, Alive l → Alive (Px.fac d l).2 := by
  intro d
  induction d with
  | zero =>
    intro l ha
    rw [Px.fac_zero]
    split
    · rename_i h2; exact ha.tail (.inl (by rw [h2]; decide))
    · split
      · rename_i h1; exact ha.tail (.inl (by rw [h1.1]; decide))
      · exact ha
  | succ d ih =>
    intro l ha
    rw [Px.fac_succ]
    split
    · rename_i h2; exact ha.tail (.inl (by rw [h2]; decide))
    · split
      · rename_i h1; exact ha.tail (.inl (by rw [h1.1]; decide))
      · split
        · rename_i h3
          have h1 := ih l.tail (ha.tail (.inl (by rw [Px.isSg_hd h3]; decide)))
          unfold Px.minus
          cases hp : Px.fac d l.tail with
          | mk o m => rw [hp] at h1; cases o <;> exact h1
        · split
          · rename_i h3
            have h1 := expr_alive ih l.tail (ha.tail (.inl (by rw [Px.isSg_hd h3]; decide)))
            unfold Px.paren
            cases hp : Px.expr (Px.fac d) l.tail with
            | mk o m =>
              rw [hp] at h1
              cases o with
              | none => exact h1
              | some e =>
                simp only []
                split
                · rename_i h5; exact h1.tail (.inl (by rw [Px.isSg_hd h5]; decide))
                · exact h1
          · exact ha
theorem read_keeps : Keeps Px.read := fun l h => ⟨Px.read_suf l, expr_alive (fac_alive 8) l h⟩
theorem sk_ne {t : List UInt8} (h : sk t ≠ 1) : t ≠ [] := by rintro rfl; exact h (by decide)
theorem dk_ne {t : List UInt8} (h : dk t ≠ 0) : t ≠ [] := by rintro rfl; exact h (by decide)
theorem other_keeps {blk : R (List St)} (h : Keeps blk) : Keeps (other blk) := by
  intro l ha
  unfold other
  split
  · rename_i hn
    obtain ⟨h1, h2⟩ := h l.tail (ha.tail (.inr (by rw [hn]; decide)))
    exact ⟨h1.trans (List.tail_suffix _), h2⟩
  · exact ⟨List.suffix_refl _, ha⟩
theorem behind_keeps {blk : R (List St)} (h : Keeps blk) (k : Nat) (p : Nat × Nat) : Keeps (behind blk k p) := by
  unfold behind
  split
  · exact name_keeps.bind fun _ => read_keeps.bind fun _ => .ret _
  · split
    · exact name_keeps.bind fun _ => name_keeps.bind fun _ => .ret _
    · split
      · exact read_keeps.bind fun _ => .ret _
      · split
        · exact read_keeps.bind fun _ => h.bind fun _ => (other_keeps h).bind fun _ => .ret _
        · split
          · exact (number_keeps 9).bind fun _ => h.bind fun _ => .ret _
          · exact name_keeps.bind fun _ => .ret _
theorem assign_keeps (p : Nat × Nat) : Keeps (assign p) := name_keeps.bind fun _ => (skip_keeps (by decide)).bind fun _ => read_keeps.bind fun _ => .ret _
theorem stmt_keeps (pl : Pl) {blk : R (List St)} (h : Keeps blk) : Keeps (stmt pl blk) := by
  intro l ha
  unfold stmt
  split
  · exact assign_keeps _ l ha
  · rename_i hn
    obtain ⟨h1, h2⟩ := behind_keeps h (sk (hd l).2.1) (pl l.length) l.tail (ha.tail (.inr (sk_ne hn)))
    exact ⟨h1.trans (List.tail_suffix _), h2⟩
theorem stmts_keeps {sp : R St} (h : Keeps sp) : ∀ f acc, Keeps (stmts sp f acc) := by
  intro f
  induction f with
  | zero => intro acc l ha; exact ⟨List.suffix_refl _, ha⟩
  | succ f ih =>
    intro acc l ha
    rw [stmts]
    split
    · rename_i hn; exact ⟨List.tail_suffix _, ha.tail (.inr (by rw [hn]; decide))⟩
    · obtain ⟨h1, h2⟩ := h l ha
      cases hc : sp l with
      | mk o m =>
        rw [hc] at h1 h2
        cases o with
        | none => exact ⟨h1, h2⟩
        | some s =>
          obtain ⟨h3, h4⟩ := ih (acc ++ [s]) m h2
          exact ⟨h3.trans h1, h4⟩
theorem block_keeps (pl : Pl) : ∀ e, Keeps (block pl e) := by
  intro e
  induction e with
  | zero => intro l ha; exact ⟨List.suffix_refl _, ha⟩
  | succ e ih =>
    intro l ha
    rw [block]
    split
    · rename_i hn
      obtain ⟨h1, h2⟩ := stmts_keeps (stmt_keeps pl ih) (l.tail.length + 1) [] l.tail (ha.tail (.inr (by rw [hn]; decide)))
      exact ⟨h1.trans (List.tail_suffix _), h2⟩
    · exact ⟨List.suffix_refl _, ha⟩
theorem decl_keeps (pl : Pl) (l : List Core) (ha : Alive l) (hn : dk (hd l).2.1 ≠ 0) : (decl pl l).2 <:+ l ∧ Alive (decl pl l).2 := by
  have ht := ha.tail (.inr (dk_ne hn))
  unfold decl
  split
  · obtain ⟨h1, h2⟩ := (name_keeps.bind fun a => (number_keeps 3).bind fun n => Keeps.ret (⟨6, ba a, n, (pl l.length).1, (pl l.length).2⟩ : Dc)) l.tail ht
    exact ⟨h1.trans (List.tail_suffix _), h2⟩
  · obtain ⟨h1, h2⟩ := (name_keeps.bind fun a => Keeps.ret (⟨dk (hd l).2.1, ba a, 0, (pl l.length).1, (pl l.length).2⟩ : Dc)) l.tail ht
    exact ⟨h1.trans (List.tail_suffix _), h2⟩
theorem decls_keeps (pl : Pl) : ∀ f acc, Keeps (decls pl f acc) := by
  intro f
  induction f with
  | zero => intro acc l ha; exact ⟨List.suffix_refl _, ha⟩
  | succ f ih =>
    intro acc l ha
    rw [decls]
    split
    · exact ⟨List.suffix_refl _, ha⟩
    · rename_i hn
      obtain ⟨h1, h2⟩ := decl_keeps pl l ha hn
      cases hc : decl pl l with
      | mk o m =>
        rw [hc] at h1 h2
        cases o with
        | none => exact ⟨h1, h2⟩
        | some s =>
          obtain ⟨h3, h4⟩ := ih (acc ++ [s]) m h2
          exact ⟨h3.trans h1, h4⟩
theorem threads_keeps (pl : Pl) : ∀ f acc, Keeps (threads pl f acc) := by
  intro f
  induction f with
  | zero => intro acc l ha; exact ⟨List.suffix_refl _, ha⟩
  | succ f ih =>
    intro acc l ha
    rw [threads]
    split
    · rename_i hn
      obtain ⟨h1, h2⟩ := block_keeps pl 8 l.tail (ha.tail (.inr (by rw [hn]; decide)))
      cases hc : block pl 8 l.tail with
      | mk o m =>
        rw [hc] at h1 h2
        cases o with
        | none => exact ⟨h1.trans (List.tail_suffix _), h2⟩
        | some s =>
          obtain ⟨h3, h4⟩ := ih (acc ++ [s]) m h2
          exact ⟨h3.trans (h1.trans (List.tail_suffix _)), h4⟩
    · exact ⟨List.suffix_refl _, ha⟩
theorem ended_keeps (d : List Dc) (t : List (List St)) : Keeps (ended d t) := by
  intro l ha
  unfold ended
  split <;> exact ⟨List.suffix_refl _, ha⟩
theorem prog_keeps (pl : Pl) : Keeps (prog pl) := (decls_keeps pl 24 []).bind fun _ => (threads_keeps pl 4 []).bind fun _ => ended_keeps _ _
/-! ### Something was read -/
/-- What is read is not nothing. -/
def Eats {α : Type} (p : R α) : Prop := ∀ l x m, Alive l → p l = (some x, m) → m.length < l.length
theorem name_eats : Eats name := by
  intro l x m ha h
  unfold name at h
  split at h
  · simp at h; have := ha.pos; rw [← h.2, List.length_tail]; omega
  · simp at h
theorem Eats.bind {α β : Type} {p : R α} {f : α → R β} (hk : Keeps p) (hp : Eats p) (hf : ∀ x, Keeps (f x)) : Eats (bind p f) := by
  intro l y m ha h
  unfold Pp.bind at h
  obtain ⟨h1, h2⟩ := hk l ha
  cases hc : p l with
  | mk o m1 =>
    rw [hc] at h h1 h2
    cases o with
    | none => simp at h
    | some x =>
      have h3 := hp l x m1 ha hc
      have h4 := (hf x m1 h2).1.length_le
      simp only [] at h
      rw [h] at h4
      simp only [] at h4
      omega
theorem stmt_eats (pl : Pl) {blk : R (List St)} (hb : Keeps blk) : Eats (stmt pl blk) := by
  intro l x m ha h
  unfold stmt at h
  split at h
  · exact Eats.bind name_keeps name_eats (fun a => (skip_keeps (by decide)).bind fun _ => read_keeps.bind fun _ => .ret _) l x m ha h
  · rename_i hn
    have h1 := (behind_keeps hb (sk (hd l).2.1) (pl l.length) l.tail (ha.tail (.inr (sk_ne hn)))).1.length_le
    rw [h] at h1
    have := ha.pos
    rw [List.length_tail] at h1
    simp only [] at h1
    omega
end Pp
end Go.Proofs.Ytnfkjmafhaecgaa
namespace Go.Proofs.Ytnfkjmafhaecgaa
namespace St
end St
namespace Dc
end Dc
namespace Ps
open Lx (Core)
open Px (hd isNm ba e0 T C D Wf)
open Pp
/-- An expression that a statement may bear. -/
structure GE (e : Ex) : Prop where
  wf : Wf e
  deep : D e 1 ≤ 8
  len : (T e 1).length ≤ 42
  one : ∀ m ∈ e.names, m.size ≤ 1
/-- A statement that may be shown, with so many blocks within one another in it. -/
inductive Gd : Nat → St → Prop
  | assign (e : Nat) (a : List UInt8) (x : Ex) (p q : Nat) (ha : isNm a = true) (hx : GE x) (h1 : a.length = 1) : Gd e (.mk 1 (ba a) e0 0 x [] [] 0 0)
  | word (e : Nat) (k : Int) (a : List UInt8) (p q : Nat) (hk : k = 2 ∨ k = 3 ∨ k = 9 ∨ k = 10) (ha : isNm a = true) (h1 : a.length = 1) : Gd e (.mk k (ba a) e0 0 ex0 [] [] 0 0)
  | send (e : Nat) (a : List UInt8) (x : Ex) (p q : Nat) (ha : isNm a = true) (hx : GE x) (h1 : a.length = 1) : Gd e (.mk 4 (ba a) e0 0 x [] [] 0 0)
  | recv (e : Nat) (a b : List UInt8) (p q : Nat) (ha : isNm a = true) (hb : isNm b = true) (h1 : a.length = 1) (h2 : b.length = 1) : Gd e (.mk 5 (ba a) (ba b) 0 ex0 [] [] 0 0)
  | print (e : Nat) (x : Ex) (p q : Nat) (hx : GE x) : Gd e (.mk 6 e0 e0 0 x [] [] 0 0)
  | cond (e : Nat) (x : Ex) (b c : List St) (p q : Nat) (hx : GE x) (hb : ∀ s ∈ b, Gd e s) (hc : ∀ s ∈ c, Gd e s) : Gd (e + 1) (.mk 7 e0 e0 0 x b c 0 0)
  | rep (e : Nat) (n : Nat) (b : List St) (p q : Nat) (hn : n ≤ 9) (hb : ∀ s ∈ b, Gd e s) : Gd (e + 1) (.mk 8 e0 e0 n ex0 b [] 0 0)
theorem Gd.up {e : Nat} {s : St} (h : Gd e s) : Gd (e + 1) s := by
  induction h with
  | assign e a x p q ha hx h1 => exact .assign _ a x p q ha hx h1
  | word e k a p q hk ha h1 => exact .word _ k a p q hk ha h1
  | send e a x p q ha hx h1 => exact .send _ a x p q ha hx h1
  | recv e a b p q ha hb h1 h2 => exact .recv _ a b p q ha hb h1 h2
  | print e x p q hx => exact .print _ x p q hx
  | cond e x b c p q hx _ _ ib ic => exact .cond _ x b c p q hx ib ic
  | rep e n b p q hn _ ib => exact .rep _ n b p q hn ib
theorem Gd.le {e f : Nat} {s : St} (h : Gd e s) (hf : e ≤ f) : Gd f s := by
  induction hf with
  | refl => exact h
  | step _ ih => exact ih.up
/-- The word of a kind. -/
def kw (k : Int) : List UInt8 := if k = 2 then [108, 111, 99, 107] else if k = 3 then [117, 110, 108, 111, 99, 107] else if k = 9 then [103, 111, 116, 111] else [108, 97, 98, 101, 108]
def tabs (d : Nat) : List UInt8 := List.replicate d 9
/-- A statement's line, given what stands within. -/
def line (k : Int) (s o : ByteArray) (n : Int) (e : Ex) (d : Nat) (b : List UInt8) (c : Option (List UInt8)) : List UInt8 :=
  if k = 1 then s.data.toList ++ [32, 61, 32] ++ T e 1
  else if k = 4 then [115, 101, 110, 100, 32] ++ s.data.toList ++ [32] ++ T e 1
  else if k = 5 then [114, 101, 99, 118, 32] ++ s.data.toList ++ [32] ++ o.data.toList
  else if k = 6 then [112, 114, 105, 110, 116, 32] ++ T e 1
  else if k = 7 then [105, 102, 32] ++ T e 1 ++ [32, 123, 10] ++ b ++ tabs d ++ [125] ++ (match c with
    | none => []
    | some c => [32, 101, 108, 115, 101, 32, 123, 10] ++ c ++ tabs d ++ [125])
  else if k = 8 then [114, 101, 112, 101, 97, 116, 32] ++ Lib.itoa n ++ [32, 123, 10] ++ b ++ tabs d ++ [125]
  else kw k ++ [32] ++ s.data.toList
/-- What is of no statement is none. -/
def some' (l : List St) (t : List UInt8) : Option (List UInt8) := match l with
  | [] => none
  | _ :: _ => some t
mutual
def text : St → Nat → List UInt8
  | .mk k s o n e b c _ _, d => tabs d ++ (line k s o n e d (texts b (d + 1)) (some' c (texts c (d + 1))) ++ [10])
def texts : List St → Nat → List UInt8
  | [], _ => []
  | a :: l, d => text a d ++ texts l d
end
abbrev cs : Core := (3, [125], 0)
/-! ### The tokens of what is shown -/
/-- The tokens of t stand at the head of those of t and what follows. -/
def Lexes (t : List UInt8) (c : List Core) : Prop := ∀ r, Lx.cr (t ++ r) = (Lx.cr r).map fun ts => c ++ ts
theorem Lexes.nil : Lexes [] [] := fun r => by simp
theorem Lexes.blank {b : UInt8} (h : Lx.blank b = true) {t : List UInt8} {c : List Core} (k : Lexes t c) : Lexes (b :: t) c := by
  intro r; rw [List.cons_append, Lx.cr_blank b _ h]; exact k r
theorem nm_word {t : List UInt8} (h : isNm t = true) : Lx.isWord t = true := by
  unfold Px.isNm at h; simp only [Bool.and_eq_true] at h; exact h.1
/-! ### Lines -/
end Ps
end Go.Proofs.Ytnfkjmafhaecgaa
namespace Go.Proofs.Ytnfkjmafhaecgaa
namespace Ps
open Lx (Core)
open Px (hd isNm ba e0 T C D Wf)
open Pp
/-! ### What may follow a statement -/
/-! ### Parts -/
/-! ### Declarations, threads -/
inductive GdD : Dc → Prop
  | plain (k : Nat) (a : List UInt8) (p q : Nat) (h1 : 1 ≤ k) (h5 : k ≤ 5) (ha : isNm a = true) (hl : a.length = 1) : GdD ⟨k, ba a, 0, p, q⟩
  | chan (n : Nat) (a : List UInt8) (p q : Nat) (hn : n ≤ 3) (ha : isNm a = true) (hl : a.length = 1) : GdD ⟨6, ba a, n, p, q⟩
/-! ### How long it is -/
end Ps
end Go.Proofs.Ytnfkjmafhaecgaa
