/- PlB -/
import Derived.Test.YtnfkjmafhaecgaaYPlA

namespace Go.Proofs.Ytnfkjmafhaecgaa
namespace Pp
open Lx (Core)
open Px (hd isNm ba e0)
abbrev R (α : Type) := List Core → Option α × List Core
def ret {α : Type} (x : α) : R α := fun l => (some x, l)
def bind {α β : Type} (p : R α) (f : α → R β) : R β := fun l => match p l with
  | (none, m) => (none, m)
  | (some x, m) => f x m
theorem bind_none {α β : Type} {p : R α} {f : α → R β} {l m : List Core} (h : p l = (none, m)) : bind p f l = (none, m) := by unfold bind; rw [h]
theorem bind_some {α β : Type} {p : R α} {f : α → R β} {l m : List Core} {x : α} (h : p l = (some x, m)) : bind p f l = f x m := by unfold bind; rw [h]
def name : R (List UInt8) := fun l => if isNm (hd l).2.1 then (some (hd l).2.1, l.tail) else (none, l)
def skip (t : List UInt8) : R Unit := fun l => if (hd l).2.1 = t then (some (), l.tail) else (none, l)
def number (most : Nat) : R Nat := fun l => if (hd l).1 = 2 ∧ (hd l).2.2 ≤ most then (some (hd l).2.2, l.tail) else (none, l)
/-- The kind of the statement whose first word is that. -/
def sk (t : List UInt8) : Nat :=
  if t = [108, 111, 99, 107] then 2 else if t = [117, 110, 108, 111, 99, 107] then 3 else if t = [115, 101, 110, 100] then 4 else if t = [114, 101, 99, 118] then 5
  else if t = [112, 114, 105, 110, 116] then 6 else if t = [105, 102] then 7 else if t = [114, 101, 112, 101, 97, 116] then 8 else if t = [103, 111, 116, 111] then 9 else if t = [108, 97, 98, 101, 108] then 10 else 1
/-- The kind of the declaration whose first word is that; 0 of none. -/
def dk (t : List UInt8) : Nat :=
  if t = [118, 97, 114] then 1 else if t = [119, 105, 100, 101] then 2 else if t = [97, 116, 111, 109, 105, 99] then 3 else if t = [108, 111, 99, 97, 108] then 4
  else if t = [109, 117, 116, 101, 120] then 5 else if t = [99, 104, 97, 110] then 6 else 0
abbrev tGo : List UInt8 := [103, 111]
abbrev tElse : List UInt8 := [101, 108, 115, 101]
abbrev tOpen : List UInt8 := [123]
abbrev tShut : List UInt8 := [125]
abbrev tIs : List UInt8 := [61]
/-- Where a statement begins, by how many tokens are left. -/
abbrev Pl := Nat → Nat × Nat
/-- An else, perhaps. -/
def other (blk : R (List St)) : R (List St) := fun m => if (hd m).2.1 = tElse then blk m.tail else (some [], m)
/-- What stands behind a keyword. -/
def behind (blk : R (List St)) (k : Nat) (p : Nat × Nat) : R St :=
  if k = 4 then bind name fun a => bind Px.read fun e => ret (.mk 4 (ba a) e0 0 e [] [] p.1 p.2)
  else if k = 5 then bind name fun a => bind name fun b => ret (.mk 5 (ba a) (ba b) 0 ex0 [] [] p.1 p.2)
  else if k = 6 then bind Px.read fun e => ret (.mk 6 e0 e0 0 e [] [] p.1 p.2)
  else if k = 7 then bind Px.read fun e => bind blk fun b => bind (other blk) fun c => ret (.mk 7 e0 e0 0 e b c p.1 p.2)
  else if k = 8 then bind (number 9) fun n => bind blk fun b => ret (.mk 8 e0 e0 n ex0 b [] p.1 p.2)
  else bind name fun a => ret (.mk k (ba a) e0 0 ex0 [] [] p.1 p.2)
/-- An assignment. -/
def assign (p : Nat × Nat) : R St := bind name fun a => bind (skip tIs) fun _ => bind Px.read fun e => ret (.mk 1 (ba a) e0 0 e [] [] p.1 p.2)
def stmt (pl : Pl) (blk : R (List St)) : R St := fun l => if sk (hd l).2.1 = 1 then assign (pl l.length) l else behind blk (sk (hd l).2.1) (pl l.length) l.tail
def stmts (sp : R St) : Nat → List St → R (List St)
  | 0, _, l => (none, l)
  | f + 1, acc, l => if (hd l).2.1 = tShut then (some acc, l.tail) else match sp l with
    | (none, m) => (none, m)
    | (some s, m) => stmts sp f (acc ++ [s]) m
/-- A block, with so many more within one another. -/
def block (pl : Pl) : Nat → R (List St)
  | 0, l => (none, l)
  | e + 1, l => if (hd l).2.1 = tOpen then stmts (stmt pl (block pl e)) (l.tail.length + 1) [] l.tail else (none, l)
def decl (pl : Pl) : R Dc := fun l =>
  if dk (hd l).2.1 = 6 then bind name (fun a => bind (number 3) fun n => ret ⟨6, ba a, n, (pl l.length).1, (pl l.length).2⟩) l.tail
  else bind name (fun a => ret ⟨dk (hd l).2.1, ba a, 0, (pl l.length).1, (pl l.length).2⟩) l.tail
def decls (pl : Pl) : Nat → List Dc → R (List Dc)
  | 0, acc, l => (some acc, l)
  | f + 1, acc, l => if dk (hd l).2.1 = 0 then (some acc, l) else match decl pl l with
    | (none, m) => (none, m)
    | (some d, m) => decls pl f (acc ++ [d]) m
def threads (pl : Pl) : Nat → List (List St) → R (List (List St))
  | 0, acc, l => (some acc, l)
  | f + 1, acc, l => if (hd l).2.1 = tGo then (match block pl 8 l.tail with
    | (none, m) => (none, m)
    | (some b, m) => threads pl f (acc ++ [b]) m) else (some acc, l)
def ended (d : List Dc) (t : List (List St)) : R (List Dc × List (List St)) := fun l => if t ≠ [] ∧ (hd l).1 = 4 then (some (d, t), l) else (none, l)
def prog (pl : Pl) : R (List Dc × List (List St)) := bind (decls pl 24 []) fun d => bind (threads pl 4 []) fun t => ended d t
/-! ### The end of the text stays -/
def Alive (l : List Core) : Prop := ∃ t ∈ l, t.1 = 4 ∧ t.2.1 = []
theorem Alive.ne {l : List Core} (h : Alive l) : l ≠ [] := by
  obtain ⟨t, ht, _⟩ := h
  rintro rfl; cases ht
theorem Alive.pos {l : List Core} (h : Alive l) : 0 < l.length := List.length_pos_iff.2 h.ne
theorem Alive.tail {l : List Core} (h : Alive l) (hn : (hd l).1 ≠ 4 ∨ (hd l).2.1 ≠ []) : Alive l.tail := by
  obtain ⟨t, ht, h4, h5⟩ := h
  cases l with
  | nil => cases ht
  | cons a l =>
    rcases List.mem_cons.1 ht with rfl | ht
    · rcases hn with hn | hn
      · exact absurd h4 hn
      · exact absurd h5 hn
    · exact ⟨t, ht, h4, h5⟩
/-- What is left is the end of what there was, and has its end. -/
def Keeps {α : Type} (p : R α) : Prop := ∀ l, Alive l → (p l).2 <:+ l ∧ Alive (p l).2
theorem Keeps.ret {α : Type} (x : α) : Keeps (ret x) := fun _ h => ⟨List.suffix_refl _, h⟩
theorem Keeps.bind {α β : Type} {p : R α} {f : α → R β} (hp : Keeps p) (hf : ∀ x, Keeps (f x)) : Keeps (bind p f) := by
  intro l h
  obtain ⟨h1, h2⟩ := hp l h
  unfold Pp.bind
  cases hc : p l with
  | mk o m =>
    rw [hc] at h1 h2
    cases o with
    | none => exact ⟨h1, h2⟩
    | some x =>
      obtain ⟨h3, h4⟩ := hf x m h2
      exact ⟨h3.trans h1, h4⟩
theorem isNm_ne {t : List UInt8} (h : isNm t = true) : t ≠ [] := by rintro rfl; cases h
theorem name_keeps : Keeps name := by
  intro l h
  unfold name
  split
  · rename_i hn; exact ⟨List.tail_suffix _, h.tail (.inr (isNm_ne hn))⟩
  · exact ⟨List.suffix_refl _, h⟩
theorem skip_keeps {t : List UInt8} (ht : t ≠ []) : Keeps (skip t) := by
  intro l h
  unfold skip
  split
  · rename_i hn; exact ⟨List.tail_suffix _, h.tail (.inr (by rw [hn]; exact ht))⟩
  · exact ⟨List.suffix_refl _, h⟩
theorem number_keeps (n : Nat) : Keeps (number n) := by
  intro l h
  unfold number
  split
  · rename_i hn; exact ⟨List.tail_suffix _, h.tail (.inl (by rw [hn.1]; decide))⟩
  · exact ⟨List.suffix_refl _, h⟩
theorem more_alive {of : Nat} {part : Px.P} (h : ∀ l, Alive l → Alive (part l).2) : ∀ f e l, Alive l → Alive (Px.more of part f e l).2 := by
  intro f
  induction f with
  | zero => intro e l ha; exact ha
  | succ f ih =>
    intro e l ha
    rw [Px.more]
    cases ho : Px.opAt of (hd l) with
    | none => exact ha
    | some k =>
      have h1 := h l.tail (ha.tail (.inl (by rw [Px.opAt_hd ho]; decide)))
      simp only []
      cases hp : part l.tail with
      | mk o m =>
        rw [hp] at h1
        cases o with
        | none => exact h1
        | some r => exact ih _ m h1
theorem row_alive {of : Nat} {part : Px.P} (h : ∀ l, Alive l → Alive (part l).2) : ∀ l, Alive l → Alive (Px.row of part l).2 := by
  intro l ha
  have h1 := h l ha
  unfold Px.row
  cases hp : part l with
  | mk o m =>
    rw [hp] at h1
    cases o with
    | none => exact h1
    | some e => exact more_alive h _ _ _ h1
theorem expr_alive {f : Px.P} (h : ∀ l, Alive l → Alive (f l).2) : ∀ l, Alive l → Alive (Px.expr f l).2 := by
  have hs : ∀ l, Alive l → Alive (Px.sum f l).2 := row_alive (row_alive h)
  intro l ha
  have h1 := hs l ha
  unfold Px.expr
  cases hp : Px.sum f l with
  | mk o m =>
    rw [hp] at h1
    cases o with
    | none => exact h1
    | some e =>
      cases hk : Px.opAt 1 (hd m) with
      | none => simp only [hk]; exact h1
      | some k =>
        simp only [hk]
        have h2 := hs m.tail (h1.tail (.inl (by rw [Px.opAt_hd hk]; decide)))
        cases hq : Px.sum f m.tail with
        | mk o m' => rw [hq] at h2; cases o <;> exact h2
theorem fac_alive : ∀ d l, Alive l → Alive (Px.fac d l).2 := by
  intro d
  induction d with
  | zero =>
    intro l ha
    rw [Px.fac_zero]
    split
    · rename_i h2; exact ha.tail (.inl (by rw [h2]; decide))
    · split
      · rename_i h1; exact ha.tail (.inl (by rw [h1.1]; decide))
      · exact ha
  | succ d ih =>
    intro l ha
    rw [Px.fac_succ]
    split
    · rename_i h2; exact ha.tail (.inl (by rw [h2]; decide))
    · split
      · rename_i h1; exact ha.tail (.inl (by rw [h1.1]; decide))
      · split
        · rename_i h3
          have h1 := ih l.tail (ha.tail (.inl (by rw [Px.isSg_hd h3]; decide)))
          unfold Px.minus
          cases hp : Px.fac d l.tail with
          | mk o m => rw [hp] at h1; cases o <;> exact h1
        · split
          · rename_i h3
            have h1 := expr_alive ih l.tail (ha.tail (.inl (by rw [Px.isSg_hd h3]; decide)))
            unfold Px.paren
            cases hp : Px.expr (Px.fac d) l.tail with
            | mk o m =>
              rw [hp] at h1
              cases o with
              | none => exact h1
              | some e =>
                simp only []
                split
                · rename_i h5; exact h1.tail (.inl (by rw [Px.isSg_hd h5]; decide))
                · exact h1
          · exact ha
theorem read_keeps : Keeps Px.read := fun l h => ⟨Px.read_suf l, expr_alive (fac_alive 8) l h⟩
theorem sk_ne {t : List UInt8} (h : sk t ≠ 1) : t ≠ [] := by rintro rfl; exact h (by decide)
theorem dk_ne {t : List UInt8} (h : dk t ≠ 0) : t ≠ [] := by rintro rfl; exact h (by decide)
theorem other_keeps {blk : R (List St)} (h : Keeps blk) : Keeps (other blk) := by
  intro l ha
  unfold other
  split
  · rename_i hn
    obtain ⟨h1, h2⟩ := h l.tail (ha.tail (.inr (by rw [hn]; decide)))
    exact ⟨h1.trans (List.tail_suffix _), h2⟩
  · exact ⟨List.suffix_refl _, ha⟩
theorem behind_keeps {blk : R (List St)} (h : Keeps blk) (k : Nat) (p : Nat × Nat) : Keeps (behind blk k p) := by
  unfold behind
  split
  · exact name_keeps.bind fun _ => read_keeps.bind fun _ => .ret _
  · split
    · exact name_keeps.bind fun _ => name_keeps.bind fun _ => .ret _
    · split
      · exact read_keeps.bind fun _ => .ret _
      · split
        · exact read_keeps.bind fun _ => h.bind fun _ => (other_keeps h).bind fun _ => .ret _
        · split
          · exact (number_keeps 9).bind fun _ => h.bind fun _ => .ret _
          · exact name_keeps.bind fun _ => .ret _
theorem assign_keeps (p : Nat × Nat) : Keeps (assign p) := name_keeps.bind fun _ => (skip_keeps (by decide)).bind fun _ => read_keeps.bind fun _ => .ret _
theorem stmt_keeps (pl : Pl) {blk : R (List St)} (h : Keeps blk) : Keeps (stmt pl blk) := by
  intro l ha
  unfold stmt
  split
  · exact assign_keeps _ l ha
  · rename_i hn
    obtain ⟨h1, h2⟩ := behind_keeps h (sk (hd l).2.1) (pl l.length) l.tail (ha.tail (.inr (sk_ne hn)))
    exact ⟨h1.trans (List.tail_suffix _), h2⟩
theorem stmts_keeps {sp : R St} (h : Keeps sp) : ∀ f acc, Keeps (stmts sp f acc) := by
  intro f
  induction f with
  | zero => intro acc l ha; exact ⟨List.suffix_refl _, ha⟩
  | succ f ih =>
    intro acc l ha
    rw [stmts]
    split
    · rename_i hn; exact ⟨List.tail_suffix _, ha.tail (.inr (by rw [hn]; decide))⟩
    · obtain ⟨h1, h2⟩ := h l ha
      cases hc : sp l with
      | mk o m =>
        rw [hc] at h1 h2
        cases o with
        | none => exact ⟨h1, h2⟩
        | some s =>
          obtain ⟨h3, h4⟩ := ih (acc ++ [s]) m h2
          exact ⟨h3.trans h1, h4⟩
theorem block_keeps (pl : Pl) : ∀ e, Keeps (block pl e) := by
  intro e
  induction e with
  | zero => intro l ha; exact ⟨List.suffix_refl _, ha⟩
  | succ e ih =>
    intro l ha
    rw [block]
    split
    · rename_i hn
      obtain ⟨h1, h2⟩ := stmts_keeps (stmt_keeps pl ih) (l.tail.length + 1) [] l.tail (ha.tail (.inr (by rw [hn]; decide)))
      exact ⟨h1.trans (List.tail_suffix _), h2⟩
    · exact ⟨List.suffix_refl _, ha⟩
theorem decl_keeps (pl : Pl) (l : List Core) (ha : Alive l) (hn : dk (hd l).2.1 ≠ 0) : (decl pl l).2 <:+ l ∧ Alive (decl pl l).2 := by
  have ht := ha.tail (.inr (dk_ne hn))
  unfold decl
  split
  · obtain ⟨h1, h2⟩ := (name_keeps.bind fun a => (number_keeps 3).bind fun n => Keeps.ret (⟨6, ba a, n, (pl l.length).1, (pl l.length).2⟩ : Dc)) l.tail ht
    exact ⟨h1.trans (List.tail_suffix _), h2⟩
  · obtain ⟨h1, h2⟩ := (name_keeps.bind fun a => Keeps.ret (⟨dk (hd l).2.1, ba a, 0, (pl l.length).1, (pl l.length).2⟩ : Dc)) l.tail ht
    exact ⟨h1.trans (List.tail_suffix _), h2⟩
theorem decls_keeps (pl : Pl) : ∀ f acc, Keeps (decls pl f acc) := by
  intro f
  induction f with
  | zero => intro acc l ha; exact ⟨List.suffix_refl _, ha⟩
  | succ f ih =>
    intro acc l ha
    rw [decls]
    split
    · exact ⟨List.suffix_refl _, ha⟩
    · rename_i hn
      obtain ⟨h1, h2⟩ := decl_keeps pl l ha hn
      cases hc : decl pl l with
      | mk o m =>
        rw [hc] at h1 h2
        cases o with
        | none => exact ⟨h1, h2⟩
        | some s =>
          obtain ⟨h3, h4⟩ := ih (acc ++ [s]) m h2
          exact ⟨h3.trans h1, h4⟩
theorem threads_keeps (pl : Pl) : ∀ f acc, Keeps (threads pl f acc) := by
  intro f
  induction f with
  | zero => intro acc l ha; exact ⟨List.suffix_refl _, ha⟩
  | succ f ih =>
    intro acc l ha
    rw [threads]
    split
    · rename_i hn
      obtain ⟨h1, h2⟩ := block_keeps pl 8 l.tail (ha.tail (.inr (by rw [hn]; decide)))
      cases hc : block pl 8 l.tail with
      | mk o m =>
        rw [hc] at h1 h2
        cases o with
        | none => exact ⟨h1.trans (List.tail_suffix _), h2⟩
        | some s =>
          obtain ⟨h3, h4⟩ := ih (acc ++ [s]) m h2
          exact ⟨h3.trans (h1.trans (List.tail_suffix _)), h4⟩
    · exact ⟨List.suffix_refl _, ha⟩
theorem ended_keeps (d : List Dc) (t : List (List St)) : Keeps (ended d t) := by
  intro l ha
  unfold ended
  split <;> exact ⟨List.suffix_refl _, ha⟩
theorem prog_keeps (pl : Pl) : Keeps (prog pl) := (decls_keeps pl 24 []).bind fun _ => (threads_keeps pl 4 []).bind fun _ => ended_keeps _ _
/-! ### Something was read -/
/-- What is read is not nothing. -/
def Eats {α : Type} (p : R α) : Prop := ∀ l x m, Alive l → p l = (some x, m) → m.length < l.length
theorem name_eats : Eats name := by
  intro l x m ha h
  unfold name at h
  split at h
  · simp at h; have := ha.pos; rw [← h.2, List.length_tail]; omega
  · simp at h
theorem Eats.bind {α β : Type} {p : R α} {f : α → R β} (hk : Keeps p) (hp : Eats p) (hf : ∀ x, Keeps (f x)) : Eats (bind p f) := by
  intro l y m ha h
  unfold Pp.bind at h
  obtain ⟨h1, h2⟩ := hk l ha
  cases hc : p l with
  | mk o m1 =>
    rw [hc] at h h1 h2
    cases o with
    | none => simp at h
    | some x =>
      have h3 := hp l x m1 ha hc
      have h4 := (hf x m1 h2).1.length_le
      simp only [] at h
      rw [h] at h4
      simp only [] at h4
      omega
theorem stmt_eats (pl : Pl) {blk : R (List St)} (hb : Keeps blk) : Eats (stmt pl blk) := by
  intro l x m ha h
  unfold stmt at h
  split at h
  · exact Eats.bind name_keeps name_eats (fun a => (skip_keeps (by decide)).bind fun _ => read_keeps.bind fun _ => .ret _) l x m ha h
  · rename_i hn
    have h1 := (behind_keeps hb (sk (hd l).2.1) (pl l.length) l.tail (ha.tail (.inr (sk_ne hn)))).1.length_le
    rw [h] at h1
    have := ha.pos
    rw [List.length_tail] at h1
    simp only [] at h1
    omega
end Pp
end Go.Proofs.Ytnfkjmafhaecgaa
namespace Go.Proofs.Ytnfkjmafhaecgaa
namespace St
mutual
/-- Without its places. -/
def strip : St → St
  | .mk k s o n e b l _ _ => .mk k s o n e (strips b) (strips l) 0 0
def strips : List St → List St
  | [] => []
  | a :: l => strip a :: strips l
end
theorem strip_eq (a : St) : strip a = .mk a.kind a.name a.other a.n a.e (strips a.body) (strips a.els) 0 0 := by cases a; rw [strip]; rfl
end St
namespace Dc
def strip (d : Dc) : Dc := ⟨d.kind, d.name, d.n, 0, 0⟩
end Dc
namespace Ps
open Lx (Core)
open Px (hd isNm ba e0 T C D Wf)
open Pp
/-- An expression that a statement may bear. -/
structure GE (e : Ex) : Prop where
  wf : Wf e
  deep : D e 1 ≤ 8
  len : (T e 1).length ≤ 42
  one : ∀ m ∈ e.names, m.size ≤ 1
/-- A statement that may be shown, with so many blocks within one another in it. -/
inductive Gd : Nat → St → Prop
  | assign (e : Nat) (a : List UInt8) (x : Ex) (p q : Nat) (ha : isNm a = true) (hx : GE x) (h1 : a.length = 1) : Gd e (.mk 1 (ba a) e0 0 x [] [] 0 0)
  | word (e : Nat) (k : Int) (a : List UInt8) (p q : Nat) (hk : k = 2 ∨ k = 3 ∨ k = 9 ∨ k = 10) (ha : isNm a = true) (h1 : a.length = 1) : Gd e (.mk k (ba a) e0 0 ex0 [] [] 0 0)
  | send (e : Nat) (a : List UInt8) (x : Ex) (p q : Nat) (ha : isNm a = true) (hx : GE x) (h1 : a.length = 1) : Gd e (.mk 4 (ba a) e0 0 x [] [] 0 0)
  | recv (e : Nat) (a b : List UInt8) (p q : Nat) (ha : isNm a = true) (hb : isNm b = true) (h1 : a.length = 1) (h2 : b.length = 1) : Gd e (.mk 5 (ba a) (ba b) 0 ex0 [] [] 0 0)
  | print (e : Nat) (x : Ex) (p q : Nat) (hx : GE x) : Gd e (.mk 6 e0 e0 0 x [] [] 0 0)
  | cond (e : Nat) (x : Ex) (b c : List St) (p q : Nat) (hx : GE x) (hb : ∀ s ∈ b, Gd e s) (hc : ∀ s ∈ c, Gd e s) : Gd (e + 1) (.mk 7 e0 e0 0 x b c 0 0)
  | rep (e : Nat) (n : Nat) (b : List St) (p q : Nat) (hn : n ≤ 9) (hb : ∀ s ∈ b, Gd e s) : Gd (e + 1) (.mk 8 e0 e0 n ex0 b [] 0 0)
theorem Gd.up {e : Nat} {s : St} (h : Gd e s) : Gd (e + 1) s := by
  induction h with
  | assign e a x p q ha hx h1 => exact .assign _ a x p q ha hx h1
  | word e k a p q hk ha h1 => exact .word _ k a p q hk ha h1
  | send e a x p q ha hx h1 => exact .send _ a x p q ha hx h1
  | recv e a b p q ha hb h1 h2 => exact .recv _ a b p q ha hb h1 h2
  | print e x p q hx => exact .print _ x p q hx
  | cond e x b c p q hx _ _ ib ic => exact .cond _ x b c p q hx ib ic
  | rep e n b p q hn _ ib => exact .rep _ n b p q hn ib
theorem Gd.le {e f : Nat} {s : St} (h : Gd e s) (hf : e ≤ f) : Gd f s := by
  induction hf with
  | refl => exact h
  | step _ ih => exact ih.up
/-- The word of a kind. -/
def kw (k : Int) : List UInt8 := if k = 2 then [108, 111, 99, 107] else if k = 3 then [117, 110, 108, 111, 99, 107] else if k = 9 then [103, 111, 116, 111] else [108, 97, 98, 101, 108]
def tabs (d : Nat) : List UInt8 := List.replicate d 9
/-- A statement's line, given what stands within. -/
def line (k : Int) (s o : ByteArray) (n : Int) (e : Ex) (d : Nat) (b : List UInt8) (c : Option (List UInt8)) : List UInt8 :=
  if k = 1 then s.data.toList ++ [32, 61, 32] ++ T e 1
  else if k = 4 then [115, 101, 110, 100, 32] ++ s.data.toList ++ [32] ++ T e 1
  else if k = 5 then [114, 101, 99, 118, 32] ++ s.data.toList ++ [32] ++ o.data.toList
  else if k = 6 then [112, 114, 105, 110, 116, 32] ++ T e 1
  else if k = 7 then [105, 102, 32] ++ T e 1 ++ [32, 123, 10] ++ b ++ tabs d ++ [125] ++ (match c with
    | none => []
    | some c => [32, 101, 108, 115, 101, 32, 123, 10] ++ c ++ tabs d ++ [125])
  else if k = 8 then [114, 101, 112, 101, 97, 116, 32] ++ Lib.itoa n ++ [32, 123, 10] ++ b ++ tabs d ++ [125]
  else kw k ++ [32] ++ s.data.toList
/-- What is of no statement is none. -/
def some' (l : List St) (t : List UInt8) : Option (List UInt8) := match l with
  | [] => none
  | _ :: _ => some t
mutual
def text : St → Nat → List UInt8
  | .mk k s o n e b c _ _, d => tabs d ++ (line k s o n e d (texts b (d + 1)) (some' c (texts c (d + 1))) ++ [10])
def texts : List St → Nat → List UInt8
  | [], _ => []
  | a :: l, d => text a d ++ texts l d
end
abbrev cw (t : List UInt8) : Core := (1, t, 0)
abbrev co : Core := (3, [123], 0)
abbrev cs : Core := (3, [125], 0)
/-- A statement's tokens. -/
def lcores (k : Int) (s o : ByteArray) (n : Int) (e : Ex) (b : List Core) (c : Option (List Core)) : List Core :=
  if k = 1 then cw s.data.toList :: (3, [61], 0) :: C e 1
  else if k = 4 then cw [115, 101, 110, 100] :: cw s.data.toList :: C e 1
  else if k = 5 then [cw [114, 101, 99, 118], cw s.data.toList, cw o.data.toList]
  else if k = 6 then cw [112, 114, 105, 110, 116] :: C e 1
  else if k = 7 then cw [105, 102] :: (C e 1 ++ co :: (b ++ cs :: (match c with
    | none => []
    | some c => cw tElse :: co :: (c ++ [cs]))))
  else if k = 8 then cw [114, 101, 112, 101, 97, 116] :: (2, Lib.itoa n, n.toNat) :: co :: (b ++ [cs])
  else [cw (kw k), cw s.data.toList]
def csome (l : List St) (t : List Core) : Option (List Core) := match l with
  | [] => none
  | _ :: _ => some t
mutual
def cores : St → List Core
  | .mk k s o n e b c _ _ => lcores k s o n e (coress b) (csome c (coress c))
def coress : List St → List Core
  | [] => []
  | a :: l => cores a ++ coress l
end
/-! ### The tokens of what is shown -/
/-- The tokens of t stand at the head of those of t and what follows. -/
def Lexes (t : List UInt8) (c : List Core) : Prop := ∀ r, Lx.cr (t ++ r) = (Lx.cr r).map fun ts => c ++ ts
/-- Likewise, if what follows does not go on. -/
def LexesS (t : List UInt8) (c : List Core) : Prop := ∀ r, Px.Stop r → Lx.cr (t ++ r) = (Lx.cr r).map fun ts => c ++ ts
theorem Lexes.app {a b : List UInt8} {c d : List Core} (h : Lexes a c) (k : Lexes b d) : Lexes (a ++ b) (c ++ d) := by
  intro r
  rw [List.append_assoc, h, k, Px.map_map_cons]
theorem LexesS.app {a b : List UInt8} {c d : List Core} (h : LexesS a c) (k : Lexes b d) (hb : ∀ r, Px.Stop (b ++ r)) : Lexes (a ++ b) (c ++ d) := by
  intro r
  rw [List.append_assoc, h _ (hb r), k, Px.map_map_cons]
theorem LexesS.appS {a b : List UInt8} {c d : List Core} (h : LexesS a c) (k : LexesS b d) (hb : ∀ r, Px.Stop r → Px.Stop (b ++ r)) : LexesS (a ++ b) (c ++ d) := by
  intro r hr
  rw [List.append_assoc, h _ (hb r hr), k _ hr, Px.map_map_cons]
theorem Lexes.appS {a b : List UInt8} {c d : List Core} (h : Lexes a c) (k : LexesS b d) : LexesS (a ++ b) (c ++ d) := by
  intro r hr
  rw [List.append_assoc, h, k _ hr, Px.map_map_cons]
theorem Lexes.toS {a : List UInt8} {c : List Core} (h : Lexes a c) : LexesS a c := fun r _ => h r
theorem Lexes.nil : Lexes [] [] := fun r => by simp
theorem Lexes.blank {b : UInt8} (h : Lx.blank b = true) {t : List UInt8} {c : List Core} (k : Lexes t c) : Lexes (b :: t) c := by
  intro r; rw [List.cons_append, Lx.cr_blank b _ h]; exact k r
theorem blank_one {b : UInt8} (h : Lx.blank b = true) : Lexes [b] [] := .blank h .nil
theorem open_lex : Lexes [123] [co] := fun r => by
  have := Px.cr_sign 123 (by decide) (by decide) (by decide) (by decide) (by decide) (by decide) r
  simpa using this
theorem shut_lex : Lexes [125] [cs] := fun r => by
  have := Px.cr_sign 125 (by decide) (by decide) (by decide) (by decide) (by decide) (by decide) r
  simpa using this
/-- A word. -/
theorem word_lex {t : List UInt8} (h : Lx.isWord t = true) : LexesS t [cw t] := by
  intro r hr
  cases t with
  | nil => cases h
  | cons c t =>
    simp only [Lx.isWord, Bool.and_eq_true, decide_eq_true_eq] at h
    obtain ⟨⟨h1, h2⟩, h3⟩ := h
    obtain ⟨n1, n2⟩ := Lx.lower_not c h1
    have htw : (t ++ r).takeWhile Lx.goes = t := Px.tw_stop Lx.goes t r (fun x hx => by rw [List.all_eq_true] at h2; exact h2 x hx) hr
    have ho : Lx.one (c :: (t ++ r)) = some (1, 1 + t.length, 0) := by
      rw [Lx.one_cons, if_pos h1, htw, if_pos (by omega)]
    rw [List.cons_append, Lx.cr_one c _ n1 n2 ho]
    have e1 : (c :: (t ++ r)).drop (1 + t.length) = r := by rw [Nat.add_comm, List.drop_succ_cons, List.drop_left]
    have e2 : (c :: (t ++ r)).take (1 + t.length) = c :: t := by rw [Nat.add_comm, List.take_succ_cons, List.take_left]
    rw [e1, e2]
    rfl
theorem nm_word {t : List UInt8} (h : isNm t = true) : Lx.isWord t = true := by
  unfold Px.isNm at h; simp only [Bool.and_eq_true] at h; exact h.1
theorem stop_blank {b : UInt8} (h : Lx.goes b = false) (t r : List UInt8) : Px.Stop (b :: t ++ r) := Px.stop_cons h _
theorem num_lex {n : Nat} (h : n < 9223372036854775808) : LexesS (Lib.itoa n) [(2, Lib.itoa n, n)] := fun r hr => by
  have := Px.cr_num n h r hr
  simpa using this
/-- A word and a blank. -/
theorem wordb {t : List UInt8} (h : Lx.isWord t = true) : Lexes (t ++ [32]) [cw t] := by
  have := (word_lex h).app (blank_one (b := 32) (by decide)) fun r => stop_blank (by decide) [] r
  simpa using this
/-! ### Lines -/
end Ps
end Go.Proofs.Ytnfkjmafhaecgaa
namespace Go.Proofs.Ytnfkjmafhaecgaa
namespace Ps
open Lx (Core)
open Px (hd isNm ba e0 T C D Wf)
open Pp
/-! ### What may follow a statement -/
structure Nx (m : List Core) : Prop where
  ok : Px.Ok 1 m
  ne : (hd m).2.1 ≠ tElse
theorem ok_kind {t : Core} {m : List Core} (h : t.1 ≠ 3) : Px.Ok 1 (t :: m) := by
  intro of _ _
  show Px.opAt of t = none
  unfold Px.opAt; rw [if_neg h]
theorem ok_brace (x : UInt8) (h : x = 123 ∨ x = 125) (m : List Core) : Px.Ok 1 ((3, [x], 0) :: m) := by
  intro of h1 h2
  show Px.opAt of (3, [x], 0) = none
  rcases h with rfl | rfl <;> match of, h1, h2 with
  | 1, _, _ => decide
  | 2, _, _ => decide
  | 3, _, _ => decide
theorem nm_not {t : List UInt8} (h : isNm t = true) : ∀ k ∈ Px.kws, t ≠ k := by
  intro k hk e
  subst e
  unfold Px.isNm at h
  simp only [Bool.and_eq_true, Bool.not_eq_true'] at h
  have h2 := h.2
  rw [List.any_eq_false] at h2
  exact h2 t hk (by simp)
theorem sk_nm {t : List UInt8} (h : isNm t = true) : sk t = 1 := by
  have n := nm_not h
  unfold sk
  rw [if_neg (n _ (by decide)), if_neg (n _ (by decide)), if_neg (n _ (by decide)), if_neg (n _ (by decide)), if_neg (n _ (by decide)), if_neg (n _ (by decide)), if_neg (n _ (by decide)), if_neg (n _ (by decide)), if_neg (n _ (by decide))]
theorem nm_else {t : List UInt8} (h : isNm t = true) : t ≠ tElse := nm_not h _ (by decide)
theorem nm_shut {t : List UInt8} (h : isNm t = true) : t ≠ tShut := by rintro rfl; exact absurd h (by decide)
/-- How a statement's tokens begin. -/
theorem cores_head {e : Nat} {s : St} (h : Gd e s) : ∃ t r, cores s = cw t :: r ∧ t ≠ tElse ∧ t ≠ tShut := by
  cases h with
  | assign _ a x p q ha hx => exact ⟨a, _, by rw [cores]; unfold lcores; rw [if_pos rfl]; rfl, nm_else ha, nm_shut ha⟩
  | word _ k a p q hk ha =>
    refine ⟨kw k, [cw a], ?_, ?_, ?_⟩
    · rw [cores]; unfold lcores; rcases hk with rfl | rfl | rfl | rfl <;> simp [ba]
    · rcases hk with rfl | rfl | rfl | rfl <;> decide
    · rcases hk with rfl | rfl | rfl | rfl <;> decide
  | send _ a x p q ha hx => exact ⟨[115, 101, 110, 100], cw a :: C x 1, by rw [cores]; unfold lcores; simp [ba], by decide, by decide⟩
  | recv _ a b p q ha hb => exact ⟨[114, 101, 99, 118], [cw a, cw b], by rw [cores]; unfold lcores; simp [ba], by decide, by decide⟩
  | print _ x p q hx => exact ⟨[112, 114, 105, 110, 116], C x 1, by rw [cores]; unfold lcores; simp, by decide, by decide⟩
  | cond e x b c p q hx _ _ => exact ⟨[105, 102], _, by rw [cores]; unfold lcores; simp; rfl, by decide, by decide⟩
  | rep e n b p q hn _ => exact ⟨[114, 101, 112, 101, 97, 116], _, by rw [cores]; unfold lcores; simp; rfl, by decide, by decide⟩
theorem nx_cores {e : Nat} {s : St} (h : Gd e s) (m : List Core) : Nx (cores s ++ m) := by
  obtain ⟨t, r, e1, h1, _⟩ := cores_head h
  rw [e1]
  exact ⟨ok_kind (by show ¬ (1 = 3); decide), h1⟩
theorem nx_shut (m : List Core) : Nx (cs :: m) := ⟨ok_brace 125 (.inr rfl) m, by show ¬ ([125] = tElse); decide⟩
/-! ### Parts -/
theorem name_at {a : List UInt8} (h : isNm a = true) (m : List Core) : name (cw a :: m) = (some a, m) := by
  unfold name; rw [if_pos (by exact h)]; rfl
theorem read_at {x : Ex} (h : GE x) {m : List Core} (ho : Px.Ok 1 m) : Px.read (C x 1 ++ m) = (some x, m) := Px.expr_reads (Px.fac_ctx 8) (Px.fac_reads 8) x h.wf h.deep m ho
theorem stmt_one (pl : Pl) (blk : R (List St)) {t : List UInt8} (h : sk t = 1) (m : List Core) : stmt pl blk (cw t :: m) = assign (pl (cw t :: m).length) (cw t :: m) := by
  show (if sk t = 1 then _ else _) = _
  rw [if_pos h]
theorem stmt_kw (pl : Pl) (blk : R (List St)) {t : List UInt8} (h : sk t ≠ 1) (m : List Core) : stmt pl blk (cw t :: m) = behind blk (sk t) (pl (cw t :: m).length) m := by
  show (if sk t = 1 then _ else _) = _
  rw [if_neg h]; rfl
/-- What a statement is read as. -/
def Rs (e : Nat) (s : St) : Prop := ∀ pl f m, e ≤ f → Nx m → ∃ s', stmt pl (block pl f) (cores s ++ m) = (some s', m) ∧ s'.strip = s.strip
theorem stmts_reads {e : Nat} (pl : Pl) (f : Nat) (hf : e ≤ f) (m : List Core) : ∀ (l : List St), (∀ s ∈ l, Gd e s ∧ Rs e s) → ∀ F acc, (coress l ++ cs :: m).length < F →
    ∃ l', stmts (stmt pl (block pl f)) F acc (coress l ++ cs :: m) = (some (acc ++ l'), m) ∧ St.strips l' = St.strips l
  | [], _, F, acc, hF => by
    cases F with
    | zero => omega
    | succ F =>
      refine ⟨[], ?_, rfl⟩
      rw [coress, List.nil_append, stmts, if_pos (show (hd (cs :: m)).2.1 = tShut from rfl), List.append_nil]; rfl
  | a :: l, H, F, acc, hF => by
    cases F with
    | zero => omega
    | succ F =>
      obtain ⟨hg, hr⟩ := H a (List.mem_cons_self ..)
      have hnx : Nx (coress l ++ cs :: m) := by
        cases l with
        | nil => rw [coress]; exact nx_shut m
        | cons b l => rw [coress, List.append_assoc]; exact nx_cores (H b (by simp)).1 _
      obtain ⟨a', e1, e2⟩ := hr pl f _ hf hnx
      obtain ⟨t, r, e3, _, h3⟩ := cores_head hg
      rw [coress, List.append_assoc] at hF ⊢
      have hlen : (coress l ++ cs :: m).length < F := by
        rw [e3] at hF
        simp only [List.cons_append, List.length_cons, List.length_append] at hF ⊢
        omega
      obtain ⟨l', e4, e5⟩ := stmts_reads pl f hf m l (fun s hs => H s (List.mem_cons_of_mem _ hs)) F (acc ++ [a']) hlen
      refine ⟨a' :: l', ?_, by rw [St.strips, St.strips, e2, e5]⟩
      have hd1 : (hd (cores a ++ (coress l ++ cs :: m))).2.1 ≠ tShut := by rw [e3]; exact h3
      rw [stmts, if_neg hd1, e1]
      simp only []
      rw [e4]
      simp
theorem block_reads {e : Nat} (pl : Pl) (f : Nat) (hf : e ≤ f) (m : List Core) (l : List St) (H : ∀ s ∈ l, Gd e s ∧ Rs e s) : ∃ l', block pl (f + 1) (co :: (coress l ++ cs :: m)) = (some l', m) ∧ St.strips l' = St.strips l := by
  obtain ⟨l', h1, h2⟩ := stmts_reads pl f hf m l H ((coress l ++ cs :: m).length + 1) [] (by omega)
  refine ⟨l', ?_, h2⟩
  rw [block, if_pos (show (hd (co :: (coress l ++ cs :: m))).2.1 = tOpen from rfl)]
  exact h1
theorem stmt_reads {e : Nat} {s : St} (h : Gd e s) : Rs e s := by
  induction h with
  | assign e a x p q ha hx =>
    intro pl f m _ hm
    refine ⟨.mk 1 (ba a) e0 0 x [] [] (pl (cores (.mk 1 (ba a) e0 0 x [] [] 0 0) ++ m).length).1 (pl (cores (.mk 1 (ba a) e0 0 x [] [] 0 0) ++ m).length).2, ?_, by rw [St.strip_eq, St.strip_eq]; rfl⟩
    have ec : cores (.mk 1 (ba a) e0 0 x [] [] 0 0) ++ m = cw a :: (3, [61], 0) :: (C x 1 ++ m) := by rw [cores]; unfold lcores; rw [if_pos rfl]; simp [ba]
    rw [ec]
    rw [stmt_one _ _ (sk_nm ha)]
    unfold assign
    rw [Pp.bind_some (name_at ha _), Pp.bind_some (show skip tIs ((3, [61], 0) :: (C x 1 ++ m)) = (some (), C x 1 ++ m) from rfl), Pp.bind_some (read_at hx hm.ok)]
    rfl
  | word e k a p q hk ha =>
    intro pl f m _ hm
    have ec : cores (.mk k (ba a) e0 0 ex0 [] [] 0 0) ++ m = cw (kw k) :: cw a :: m := by rw [cores]; unfold lcores; rcases hk with rfl | rfl | rfl | rfl <;> simp [ba]
    have hsk : ((sk (kw k) : Nat) : Int) = k ∧ sk (kw k) ≠ 1 ∧ sk (kw k) ≠ 4 ∧ sk (kw k) ≠ 5 ∧ sk (kw k) ≠ 6 ∧ sk (kw k) ≠ 7 ∧ sk (kw k) ≠ 8 := by rcases hk with rfl | rfl | rfl | rfl <;> decide
    obtain ⟨k0, k1, k4, k5, k6, k7, k8⟩ := hsk
    refine ⟨.mk k (ba a) e0 0 ex0 [] [] (pl (cores (.mk k (ba a) e0 0 ex0 [] [] 0 0) ++ m).length).1 (pl (cores (.mk k (ba a) e0 0 ex0 [] [] 0 0) ++ m).length).2, ?_, by rw [St.strip_eq, St.strip_eq]; rfl⟩
    rw [ec]
    rw [stmt_kw _ _ (show sk (kw k) ≠ 1 from k1)]
    unfold behind
    rw [if_neg (show ¬ sk (kw k) = 4 from k4), if_neg (show ¬ sk (kw k) = 5 from k5), if_neg (show ¬ sk (kw k) = 6 from k6), if_neg (show ¬ sk (kw k) = 7 from k7), if_neg (show ¬ sk (kw k) = 8 from k8)]
    rw [Pp.bind_some (show name (cw a :: m) = _ from name_at ha _)]
    show (some (St.mk ((sk (kw k) : Nat) : Int) _ _ _ _ _ _ _ _), m) = _
    rw [k0]
  | send e a x p q ha hx =>
    intro pl f m _ hm
    have ec : cores (.mk 4 (ba a) e0 0 x [] [] 0 0) ++ m = cw [115, 101, 110, 100] :: cw a :: (C x 1 ++ m) := by rw [cores]; unfold lcores; simp [ba]
    refine ⟨.mk 4 (ba a) e0 0 x [] [] (pl (cores (.mk 4 (ba a) e0 0 x [] [] 0 0) ++ m).length).1 (pl (cores (.mk 4 (ba a) e0 0 x [] [] 0 0) ++ m).length).2, ?_, by rw [St.strip_eq, St.strip_eq]; rfl⟩
    rw [ec]
    rw [stmt_kw _ _ (show sk [115, 101, 110, 100] ≠ 1 by decide)]
    unfold behind
    rw [if_pos (show sk [115, 101, 110, 100] = 4 by decide)]
    rw [Pp.bind_some (show name (cw a :: (C x 1 ++ m)) = _ from name_at ha _), Pp.bind_some (read_at hx hm.ok)]
    rfl
  | recv e a b p q ha hb =>
    intro pl f m _ hm
    have ec : cores (.mk 5 (ba a) (ba b) 0 ex0 [] [] 0 0) ++ m = cw [114, 101, 99, 118] :: cw a :: cw b :: m := by rw [cores]; unfold lcores; simp [ba]
    refine ⟨.mk 5 (ba a) (ba b) 0 ex0 [] [] (pl (cores (.mk 5 (ba a) (ba b) 0 ex0 [] [] 0 0) ++ m).length).1 (pl (cores (.mk 5 (ba a) (ba b) 0 ex0 [] [] 0 0) ++ m).length).2, ?_, by rw [St.strip_eq, St.strip_eq]; rfl⟩
    rw [ec]
    rw [stmt_kw _ _ (show sk [114, 101, 99, 118] ≠ 1 by decide)]
    unfold behind
    rw [if_neg (show ¬ sk [114, 101, 99, 118] = 4 by decide), if_pos (show sk [114, 101, 99, 118] = 5 by decide)]
    rw [Pp.bind_some (show name (cw a :: cw b :: m) = _ from name_at ha _), Pp.bind_some (name_at hb _)]
    rfl
  | print e x p q hx =>
    intro pl f m _ hm
    have ec : cores (.mk 6 e0 e0 0 x [] [] 0 0) ++ m = cw [112, 114, 105, 110, 116] :: (C x 1 ++ m) := by rw [cores]; unfold lcores; simp
    refine ⟨.mk 6 e0 e0 0 x [] [] (pl (cores (.mk 6 e0 e0 0 x [] [] 0 0) ++ m).length).1 (pl (cores (.mk 6 e0 e0 0 x [] [] 0 0) ++ m).length).2, ?_, by rw [St.strip_eq, St.strip_eq]; rfl⟩
    rw [ec]
    rw [stmt_kw _ _ (show sk [112, 114, 105, 110, 116] ≠ 1 by decide)]
    unfold behind
    rw [if_neg (show ¬ sk [112, 114, 105, 110, 116] = 4 by decide), if_neg (show ¬ sk [112, 114, 105, 110, 116] = 5 by decide), if_pos (show sk [112, 114, 105, 110, 116] = 6 by decide)]
    rw [Pp.bind_some (show Px.read ((C x 1 ++ m)) = _ from read_at hx hm.ok)]
    rfl
  | cond e x b c p q hx hb hc ib ic =>
    intro pl f m hf hm
    cases f with
    | zero => omega
    | succ f =>
      have hf' : e ≤ f := by omega
      have hh : ∀ z, sk [105, 102] = z ↔ 7 = z := by intro z; exact Iff.rfl
      cases c with
      | nil =>
        have ec : cores (.mk 7 e0 e0 0 x b [] 0 0) ++ m = cw [105, 102] :: (C x 1 ++ co :: (coress b ++ cs :: m)) := by rw [cores]; unfold lcores; simp [csome]
        obtain ⟨b', e1, e2⟩ := block_reads pl f hf' m b fun s hs => ⟨hb s hs, ib s hs⟩
        refine ⟨.mk 7 e0 e0 0 x b' [] (pl (cores (.mk 7 e0 e0 0 x b [] 0 0) ++ m).length).1 (pl (cores (.mk 7 e0 e0 0 x b [] 0 0) ++ m).length).2, ?_, by rw [St.strip_eq, St.strip_eq]; simp only [St.kind, St.name, St.other, St.n, St.e, St.body, St.els, e2]⟩
        rw [ec]
        rw [stmt_kw _ _ (show sk [105, 102] ≠ 1 by decide)]
        unfold behind
        rw [if_neg (show ¬ sk [105, 102] = 4 by decide), if_neg (show ¬ sk [105, 102] = 5 by decide), if_neg (show ¬ sk [105, 102] = 6 by decide), if_pos (show sk [105, 102] = 7 by decide)]
        rw [Pp.bind_some (show Px.read ((C x 1 ++ co :: (coress b ++ cs :: m))) = _ from read_at hx (ok_brace 123 (.inl rfl) _)), Pp.bind_some e1]
        rw [Pp.bind_some (show other (block pl (f + 1)) m = (some [], m) by unfold other; rw [if_neg hm.ne])]
        rfl
      | cons s0 c =>
        have ec : cores (.mk 7 e0 e0 0 x b (s0 :: c) 0 0) ++ m = cw [105, 102] :: (C x 1 ++ co :: (coress b ++ cs :: (cw tElse :: co :: (coress (s0 :: c) ++ cs :: m)))) := by rw [cores]; unfold lcores; simp [csome]
        obtain ⟨b', e1, e2⟩ := block_reads pl f hf' (cw tElse :: co :: (coress (s0 :: c) ++ cs :: m)) b fun s hs => ⟨hb s hs, ib s hs⟩
        obtain ⟨c', e3, e4⟩ := block_reads pl f hf' m (s0 :: c) fun s hs => ⟨hc s hs, ic s hs⟩
        refine ⟨.mk 7 e0 e0 0 x b' c' (pl (cores (.mk 7 e0 e0 0 x b (s0 :: c) 0 0) ++ m).length).1 (pl (cores (.mk 7 e0 e0 0 x b (s0 :: c) 0 0) ++ m).length).2, ?_, by rw [St.strip_eq, St.strip_eq]; simp only [St.kind, St.name, St.other, St.n, St.e, St.body, St.els, e2, e4]⟩
        rw [ec]
        rw [stmt_kw _ _ (show sk [105, 102] ≠ 1 by decide)]
        unfold behind
        rw [if_neg (show ¬ sk [105, 102] = 4 by decide), if_neg (show ¬ sk [105, 102] = 5 by decide), if_neg (show ¬ sk [105, 102] = 6 by decide), if_pos (show sk [105, 102] = 7 by decide)]
        rw [Pp.bind_some (show Px.read ((C x 1 ++ co :: (coress b ++ cs :: (cw tElse :: co :: (coress (s0 :: c) ++ cs :: m))))) = _ from read_at hx (ok_brace 123 (.inl rfl) _)), Pp.bind_some e1]
        rw [Pp.bind_some (show other (block pl (f + 1)) (cw tElse :: co :: (coress (s0 :: c) ++ cs :: m)) = (some c', m) by unfold other; rw [if_pos (show (hd (cw tElse :: co :: (coress (s0 :: c) ++ cs :: m))).2.1 = tElse from rfl)]; exact e3)]
        rfl
  | rep e n b p q hn hb ib =>
    intro pl f m hf hm
    cases f with
    | zero => omega
    | succ f =>
      have hf' : e ≤ f := by omega
      have ec : cores (.mk 8 e0 e0 n ex0 b [] 0 0) ++ m = cw [114, 101, 112, 101, 97, 116] :: (2, Lib.itoa n, n) :: co :: (coress b ++ cs :: m) := by rw [cores]; unfold lcores; simp
      obtain ⟨b', e1, e2⟩ := block_reads pl f hf' m b fun s hs => ⟨hb s hs, ib s hs⟩
      refine ⟨.mk 8 e0 e0 n ex0 b' [] (pl (cores (.mk 8 e0 e0 n ex0 b [] 0 0) ++ m).length).1 (pl (cores (.mk 8 e0 e0 n ex0 b [] 0 0) ++ m).length).2, ?_, by rw [St.strip_eq, St.strip_eq]; simp only [St.kind, St.name, St.other, St.n, St.e, St.body, St.els, e2]⟩
      rw [ec]
      rw [stmt_kw _ _ (show sk [114, 101, 112, 101, 97, 116] ≠ 1 by decide)]
      unfold behind
      rw [if_neg (show ¬ sk [114, 101, 112, 101, 97, 116] = 4 by decide), if_neg (show ¬ sk [114, 101, 112, 101, 97, 116] = 5 by decide), if_neg (show ¬ sk [114, 101, 112, 101, 97, 116] = 6 by decide), if_neg (show ¬ sk [114, 101, 112, 101, 97, 116] = 7 by decide), if_pos (show sk [114, 101, 112, 101, 97, 116] = 8 by decide)]
      rw [Pp.bind_some (show number 9 ((2, Lib.itoa n, n) :: co :: (coress b ++ cs :: m)) = (some n, co :: (coress b ++ cs :: m)) by unfold number; rw [if_pos ⟨rfl, hn⟩]; rfl), Pp.bind_some e1]
      rfl
/-! ### Declarations, threads -/
inductive GdD : Dc → Prop
  | plain (k : Nat) (a : List UInt8) (p q : Nat) (h1 : 1 ≤ k) (h5 : k ≤ 5) (ha : isNm a = true) (hl : a.length = 1) : GdD ⟨k, ba a, 0, p, q⟩
  | chan (n : Nat) (a : List UInt8) (p q : Nat) (hn : n ≤ 3) (ha : isNm a = true) (hl : a.length = 1) : GdD ⟨6, ba a, n, p, q⟩
def dw (k : Int) : List UInt8 := if k = 1 then [118, 97, 114] else if k = 2 then [119, 105, 100, 101] else if k = 3 then [97, 116, 111, 109, 105, 99] else if k = 4 then [108, 111, 99, 97, 108] else if k = 5 then [109, 117, 116, 101, 120] else [99, 104, 97, 110]
def dcores (d : Dc) : List Core := [cw (dw d.kind), cw d.name.data.toList] ++ (if d.kind = 6 then [(2, Lib.itoa d.n, d.n.toNat)] else [])
def dcoress (l : List Dc) : List Core := l.flatMap dcores
def tcores (b : List St) : List Core := cw tGo :: co :: (coress b ++ [cs])
def tcoress (t : List (List St)) : List Core := t.flatMap tcores
theorem decl_reads {x : Dc} (h : GdD x) (pl : Pl) (m : List Core) : ∃ x', decl pl (dcores x ++ m) = (some x', m) ∧ x'.strip = x.strip ∧ dk (hd (dcores x ++ m)).2.1 ≠ 0 := by
  cases h with
  | plain k a p q h1 h5 ha =>
    have hk : ¬ ((k : Int) = 6) := by omega
    have ec : dcores ⟨k, ba a, 0, p, q⟩ ++ m = cw (dw k) :: cw a :: m := by simp [dcores, hk, ba]
    have hdk : dk (dw k) = k := by
      match k, h1, h5 with
      | 1, _, _ => decide
      | 2, _, _ => decide
      | 3, _, _ => decide
      | 4, _, _ => decide
      | 5, _, _ => decide
    rw [ec]
    refine ⟨⟨k, ba a, 0, (pl (m.length + 1 + 1)).1, (pl (m.length + 1 + 1)).2⟩, ?_, rfl, ?_⟩
    · show (if dk (dw k) = 6 then _ else Pp.bind name (fun a => ret (⟨dk (dw k), ba a, 0, (pl (m.length + 1 + 1)).1, (pl (m.length + 1 + 1)).2⟩ : Dc)) (cw a :: m)) = _
      rw [if_neg (show ¬ dk (dw k) = 6 by omega), Pp.bind_some (name_at ha m), hdk]; rfl
    · show dk (dw k) ≠ 0; omega
  | chan n a p q hn ha =>
    have ec : dcores ⟨6, ba a, n, p, q⟩ ++ m = cw [99, 104, 97, 110] :: cw a :: (2, Lib.itoa n, n) :: m := by simp [dcores, ba, dw]
    rw [ec]
    refine ⟨⟨6, ba a, n, (pl (m.length + 1 + 1 + 1)).1, (pl (m.length + 1 + 1 + 1)).2⟩, ?_, rfl, by show dk [99, 104, 97, 110] ≠ 0; decide⟩
    have e1 : decl pl (cw [99, 104, 97, 110] :: cw a :: (2, Lib.itoa n, n) :: m) = Pp.bind name (fun a => Pp.bind (number 3) fun n => ret (⟨6, ba a, n, (pl (m.length + 1 + 1 + 1)).1, (pl (m.length + 1 + 1 + 1)).2⟩ : Dc)) (cw a :: (2, Lib.itoa n, n) :: m) := if_pos (show dk [99, 104, 97, 110] = 6 by decide)
    rw [e1, Pp.bind_some (name_at ha _)]
    rw [Pp.bind_some (show number 3 ((2, Lib.itoa n, n) :: m) = (some n, m) by unfold number; rw [if_pos ⟨rfl, hn⟩]; rfl)]
    rfl
theorem decls_reads (pl : Pl) (m : List Core) (hm : dk (hd m).2.1 = 0) : ∀ (l : List Dc), (∀ x ∈ l, GdD x) → ∀ f acc, l.length ≤ f → ∃ l', decls pl f acc (dcoress l ++ m) = (some (acc ++ l'), m) ∧ l'.map Dc.strip = l.map Dc.strip
  | [], _, f, acc, _ => by
    refine ⟨[], ?_, rfl⟩
    rw [dcoress, List.flatMap_nil, List.nil_append, List.append_nil]
    cases f with
    | zero => rfl
    | succ f => rw [decls, if_pos hm]
  | x :: l, H, f, acc, hf => by
    cases f with
    | zero => simp at hf
    | succ f =>
      have ea : dcoress (x :: l) ++ m = dcores x ++ (dcoress l ++ m) := by rw [dcoress, List.flatMap_cons, List.append_assoc]; rfl
      obtain ⟨x', e1, e2, e3⟩ := decl_reads (H x (List.mem_cons_self ..)) pl (dcoress l ++ m)
      obtain ⟨l', e4, e5⟩ := decls_reads pl m hm l (fun y hy => H y (List.mem_cons_of_mem _ hy)) f (acc ++ [x']) (by simpa using hf)
      refine ⟨x' :: l', ?_, by rw [List.map_cons, List.map_cons, e2, e5]⟩
      rw [ea, decls, if_neg e3, e1]
      simp only []
      rw [e4]; simp
theorem threads_reads {e : Nat} (he : e ≤ 7) (pl : Pl) (m : List Core) : ∀ (t : List (List St)), (∀ b ∈ t, ∀ s ∈ b, Gd e s) → ∀ f acc, t.length ≤ f → (t.length < f → (hd m).2.1 ≠ tGo) → ∃ t', threads pl f acc (tcoress t ++ m) = (some (acc ++ t'), m) ∧ t'.map St.strips = t.map St.strips
  | [], _, f, acc, _, hm => by
    refine ⟨[], ?_, rfl⟩
    rw [tcoress, List.flatMap_nil, List.nil_append, List.append_nil]
    cases f with
    | zero => rfl
    | succ f => rw [threads, if_neg (hm (by simp))]
  | b :: t, H, f, acc, hf, hm => by
    cases f with
    | zero => simp at hf
    | succ f =>
      have ea : tcoress (b :: t) ++ m = cw tGo :: co :: (coress b ++ cs :: (tcoress t ++ m)) := by rw [tcoress, List.flatMap_cons, tcores]; simp [tcoress]
      obtain ⟨b', e1, e2⟩ := block_reads pl 7 he (tcoress t ++ m) b fun s hs => ⟨H b (List.mem_cons_self ..) s hs, stmt_reads (H b (List.mem_cons_self ..) s hs)⟩
      obtain ⟨t', e4, e5⟩ := threads_reads he pl m t (fun y hy => H y (List.mem_cons_of_mem _ hy)) f (acc ++ [b']) (by simpa using hf) (fun h => hm (by simpa using h))
      refine ⟨b' :: t', ?_, by rw [List.map_cons, List.map_cons, e2, e5]⟩
      rw [ea, threads, if_pos (show (hd (cw tGo :: co :: (coress b ++ cs :: (tcoress t ++ m)))).2.1 = tGo from rfl)]
      simp only [List.tail_cons]
      rw [e1]
      simp only []
      rw [e4]; simp
/-! ### How long it is -/
end Ps
end Go.Proofs.Ytnfkjmafhaecgaa
