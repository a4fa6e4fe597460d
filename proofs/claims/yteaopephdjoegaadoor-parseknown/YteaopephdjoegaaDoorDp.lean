/- Blocks within blocks: their text, its tokens and where they stand, and how they are read: said plainly. No program, no condition. -/
import Derived.Test.YteaopephdjoegaaDoorPlB
namespace Go.Proofs.YteaopephdjoegaaDoor
namespace Dp
open Lx (Core Tk)
open Px (hd isNm ba e0)
open Pp

def opn (k : Nat) : List UInt8 := if k = 0 then [32, 105, 102, 32, 120, 32, 123] else if k = 1 then [32, 114, 101, 112, 101, 97, 116, 32, 50, 32, 123] else [32, 105, 102, 32, 49, 32, 123, 32, 125, 32, 101, 108, 115, 101, 32, 123]
def off (k : Nat) : Nat := if k = 1 then 10 else 6
def head : List UInt8 := [103, 111, 32, 123]
def txt (ks : List Nat) : List UInt8 := head ++ ks.flatMap opn
def full (ks : List Nat) : List UInt8 := txt ks ++ List.replicate (ks.length + 1) 125

/-! ### Where the ninth brace opens -/
def scan : List UInt8 → Nat → Int → Option Nat
  | [], _, _ => none
  | c :: r, p, o => if c = 123 then (if o + 1 = 9 then some p else scan r (p + 1) (o + 1)) else if c = 125 then scan r (p + 1) (o - 1) else scan r (p + 1) o
theorem three {P : Nat → Prop} (h0 : P 0) (h1 : P 1) (h2 : P 2) : ∀ k, k < 3 → P k
  | 0, _ => h0
  | 1, _ => h1
  | 2, _ => h2
  | k + 3, h => by omega
theorem scan_opn (k : Nat) (hk : k < 3) (r : List UInt8) (p : Nat) (o : Int) (ho : o ≤ 7) : scan (opn k ++ r) p o = scan r (p + (opn k).length) (o + 1) := by
  have h : ¬ (o + 1 = 9) := by omega
  revert k
  refine three ?_ ?_ ?_ <;> simp [opn, scan, h]
theorem scan_at (k : Nat) (hk : k < 3) (r : List UInt8) (p : Nat) : scan (opn k ++ r) p 8 = some (p + off k) := by
  revert k
  refine three ?_ ?_ ?_ <;> simp [opn, scan, off]
theorem scan_all : ∀ (ks : List Nat), (∀ k ∈ ks, k < 3) → ∀ r p (o : Int), o + ks.length ≤ 8 → scan (ks.flatMap opn ++ r) p o = scan r (p + (ks.flatMap opn).length) (o + ks.length)
  | [], _, r, p, o, _ => by simp
  | k :: ks, h, r, p, o, ho => by
    rw [List.length_cons] at ho
    rw [List.flatMap_cons, List.append_assoc, scan_opn k (h k (List.mem_cons_self ..)) _ _ _ (by omega), scan_all ks (fun x hx => h x (List.mem_cons_of_mem _ hx)) r _ _ (by omega)]
    rw [List.length_append, List.length_cons]
    congr 1 <;> omega
theorem scan_none (ks : List Nat) (h : ∀ k ∈ ks, k < 3) (hl : ks.length ≤ 7) : scan (txt ks) 0 0 = none := by
  have e : scan (txt ks) 0 0 = scan (ks.flatMap opn) 4 1 := by simp [txt, head, scan]
  rw [e]
  have := scan_all ks h [] 4 1 (by omega)
  rw [List.append_nil] at this
  rw [this]; rfl
theorem scan_some (k1 k2 : List Nat) (k : Nat) (h1 : ∀ x ∈ k1, x < 3) (hk : k < 3) (hl : k1.length = 7) : scan (txt (k1 ++ k :: k2)) 0 0 = some (4 + (k1.flatMap opn).length + off k) := by
  have e : scan (txt (k1 ++ k :: k2)) 0 0 = scan (k1.flatMap opn ++ (opn k ++ k2.flatMap opn)) 4 1 := by simp [txt, head, scan]
  rw [e, scan_all k1 h1 _ 4 1 (by omega), hl]
  exact scan_at k hk _ _

/-! ### Tokens, and where they stand -/
def LexP (x : List UInt8) (ts : Nat → List Tk) : Prop := ∀ p r f, (x ++ r).length < f → Lx.run f p (x ++ r) = (Lx.run f (p + x.length) r).pre (ts p)
theorem LexP.app {x y : List UInt8} {tx ty : Nat → List Tk} (h : LexP x tx) (k : LexP y ty) : LexP (x ++ y) (fun p => tx p ++ ty (p + x.length)) := by
  intro p r f hf
  simp only [List.length_append] at hf
  rw [List.append_assoc, h p (y ++ r) f (by simp only [List.length_append]; omega), k _ r f (by simp only [List.length_append]; omega), Lx.pre_pre, List.length_append, Nat.add_assoc]
theorem LexP.nil : LexP [] (fun _ => []) := fun p r f _ => by simp [Lx.pre_nil]
/-- Likewise, if what follows does not go on. -/
def LexQ (x : List UInt8) (ts : Nat → List Tk) : Prop := ∀ p r f, Px.Stop r → (x ++ r).length < f → Lx.run f p (x ++ r) = (Lx.run f (p + x.length) r).pre (ts p)
theorem LexQ.app {x y : List UInt8} {tx ty : Nat → List Tk} (h : LexQ x tx) (k : LexP y ty) (hs : ∀ r, Px.Stop (y ++ r)) : LexP (x ++ y) (fun p => tx p ++ ty (p + x.length)) := by
  intro p r f hf
  simp only [List.length_append] at hf
  rw [List.append_assoc, h p (y ++ r) f (hs r) (by simp only [List.length_append]; omega), k _ r f (by simp only [List.length_append]; omega), Lx.pre_pre, List.length_append, Nat.add_assoc]
theorem blankP {b : UInt8} (h : Lx.blank b = true) : LexP [b] (fun _ => []) := by
  intro p r f hf
  cases f with
  | zero => omega
  | succ f =>
    simp only [List.length_append, List.length_cons, List.length_nil] at hf
    show Lx.run (f + 1) p (b :: r) = _
    rw [Lx.run_cons, if_pos h, Lx.pre_nil]
    exact Lx.run_fuel _ _ _ _ (by omega) (by omega)
theorem signP (c : UInt8) (hl : Lx.lower c = false) (hd : Lx.digit c = false) (hb : Lx.blank c = false) (h35 : c ≠ 35) (h61 : c ≠ 61) (hs : Lx.signs.contains c = true) : LexP [c] (fun p => [⟨3, p, [c], 0⟩]) := by
  intro p r f hf
  cases f with
  | zero => omega
  | succ f =>
    simp only [List.length_append, List.length_cons, List.length_nil] at hf
    show Lx.run (f + 1) p (c :: r) = _
    have ho : Lx.one (c :: r) = some (3, 1, 0) := by
      rw [Lx.one_cons, if_neg (by rw [hl]; decide), if_neg (by rw [hd]; decide), if_neg (fun e => h61 e.1), if_pos hs]
    rw [Lx.run_cons, if_neg (by rw [hb]; decide), if_neg h35, ho]
    show (Lx.run f (p + 1) r).pre [⟨3, p, [c], 0⟩] = _
    congr 1
    exact Lx.run_fuel _ _ _ _ (by omega) (by omega)
theorem wordQ {t : List UInt8} (h : Lx.isWord t = true) : LexQ t (fun p => [⟨1, p, t, 0⟩]) := by
  intro p r f hr hf
  cases t with
  | nil => cases h
  | cons c t =>
    cases f with
    | zero => omega
    | succ f =>
      simp only [Lx.isWord, Bool.and_eq_true, decide_eq_true_eq] at h
      obtain ⟨⟨h1, h2⟩, h3⟩ := h
      obtain ⟨n1, n2⟩ := Lx.lower_not c h1
      have htw : (t ++ r).takeWhile Lx.goes = t := Px.tw_stop Lx.goes t r (fun x hx => by rw [List.all_eq_true] at h2; exact h2 x hx) hr
      have ho : Lx.one (c :: (t ++ r)) = some (1, 1 + t.length, 0) := by
        rw [Lx.one_cons, if_pos h1, htw, if_pos (by omega)]
      simp only [List.length_append, List.length_cons] at hf
      rw [List.cons_append, Lx.run_cons, if_neg (by rw [n1]; decide), if_neg n2, ho]
      have e1 : (c :: (t ++ r)).drop (1 + t.length) = r := by rw [Nat.add_comm, List.drop_succ_cons, List.drop_left]
      have e2 : (c :: (t ++ r)).take (1 + t.length) = c :: t := by rw [Nat.add_comm, List.take_succ_cons, List.take_left]
      simp only [e1, e2]
      rw [show p + (1 + t.length) = p + (c :: t).length by rw [List.length_cons]; omega]
      congr 1
      exact Lx.run_fuel _ _ _ _ (by omega) (by omega)
theorem numQ (c : UInt8) (n : Nat) (hd : Lx.digit c = true) (hn : Lx.num [c] = some n) : LexQ [c] (fun p => [⟨2, p, [c], n⟩]) := by
  intro p r f hr hf
  cases f with
  | zero => omega
  | succ f =>
    simp only [List.length_append, List.length_cons, List.length_nil] at hf
    obtain ⟨n1, n2, n3⟩ := Px.digit_not hd
    have htw : r.takeWhile Lx.digit = [] := by
      have := Px.tw_stop Lx.digit [] r (fun x hx => by cases hx) (fun c t e => Px.goes_digit (hr c t e))
      simpa using this
    show Lx.run (f + 1) p (c :: r) = _
    have ho : Lx.one (c :: r) = some (2, 1, n) := by
      rw [Lx.one_cons, if_neg (by rw [n1]; decide), if_pos hd, htw, hn]; rfl
    rw [Lx.run_cons, if_neg (by rw [n2]; decide), if_neg n3, ho]
    show (Lx.run f (p + 1) r).pre [⟨2, p, [c], n⟩] = _
    congr 1
    exact Lx.run_fuel _ _ _ _ (by omega) (by omega)
theorem openP : LexP [123] (fun p => [⟨3, p, [123], 0⟩]) := signP 123 (by decide) (by decide) (by decide) (by decide) (by decide) (by decide)
theorem shutP : LexP [125] (fun p => [⟨3, p, [125], 0⟩]) := signP 125 (by decide) (by decide) (by decide) (by decide) (by decide) (by decide)
theorem bl : LexP [32] (fun _ => []) := blankP (by decide)
theorem bl_stop (t r : List UInt8) : Px.Stop ([32] ++ t ++ r) := Px.stop_cons (by decide) _
theorem LexP.cast {x : List UInt8} {t t' : Nat → List Tk} (h : LexP x t) (e : ∀ p, t p = t' p) : LexP x t' := by
  intro p r f hf; rw [h p r f hf, e p]

def ot (k p : Nat) : List Tk := if k = 0 then [⟨1, p + 1, [105, 102], 0⟩, ⟨1, p + 4, [120], 0⟩, ⟨3, p + 6, [123], 0⟩]
  else if k = 1 then [⟨1, p + 1, [114, 101, 112, 101, 97, 116], 0⟩, ⟨2, p + 8, [50], 2⟩, ⟨3, p + 10, [123], 0⟩]
  else [⟨1, p + 1, [105, 102], 0⟩, ⟨2, p + 4, [49], 1⟩, ⟨3, p + 6, [123], 0⟩, ⟨3, p + 8, [125], 0⟩, ⟨1, p + 10, [101, 108, 115, 101], 0⟩, ⟨3, p + 15, [123], 0⟩]
theorem open_blank : LexP [32, 123] (fun p => [⟨3, p + 1, [123], 0⟩]) := (bl.app openP).cast fun _ => rfl
theorem opn_lex (k : Nat) (hk : k < 3) : LexP (opn k) (ot k) := by
  revert k
  refine three ?_ ?_ ?_
  · have h1 := (wordQ (t := [120]) (by decide)).app open_blank (fun r => bl_stop [123] r)
    have h2 := (wordQ (t := [105, 102]) (by decide)).app (bl.app h1) (fun r => bl_stop _ r)
    exact (bl.app h2).cast fun _ => rfl
  · have h1 := (numQ 50 2 (by decide) (by decide +kernel)).app open_blank (fun r => bl_stop [123] r)
    have h2 := (wordQ (t := [114, 101, 112, 101, 97, 116]) (by decide)).app (bl.app h1) (fun r => bl_stop _ r)
    exact (bl.app h2).cast fun _ => rfl
  · have h0 := (wordQ (t := [101, 108, 115, 101]) (by decide)).app open_blank (fun r => bl_stop [123] r)
    have h1 := (numQ 49 1 (by decide) (by decide +kernel)).app (open_blank.app (bl.app (shutP.app (bl.app h0)))) (fun r => bl_stop _ r)
    have h2 := (wordQ (t := [105, 102]) (by decide)).app (bl.app h1) (fun r => bl_stop _ r)
    exact (bl.app h2).cast fun _ => rfl
theorem head_lex : LexP head (fun p => [⟨1, p, [103, 111], 0⟩, ⟨3, p + 3, [123], 0⟩]) :=
  ((wordQ (t := [103, 111]) (by decide)).app open_blank (fun r => bl_stop [123] r)).cast fun _ => rfl
def ots : List Nat → Nat → List Tk
  | [], _ => []
  | k :: ks, p => ot k p ++ ots ks (p + (opn k).length)
theorem opns_lex : ∀ ks : List Nat, (∀ k ∈ ks, k < 3) → LexP (ks.flatMap opn) (ots ks)
  | [], _ => LexP.nil
  | k :: ks, h => by
    rw [List.flatMap_cons]
    exact ((opn_lex k (h k (List.mem_cons_self ..))).app (opns_lex ks fun x hx => h x (List.mem_cons_of_mem _ hx))).cast fun _ => rfl
def shuts : Nat → Nat → List Tk
  | 0, _ => []
  | n + 1, p => ⟨3, p, [125], 0⟩ :: shuts n (p + 1)
theorem shuts_lex : ∀ n, LexP (List.replicate n 125) (shuts n)
  | 0 => LexP.nil
  | n + 1 => (shutP.app (shuts_lex n)).cast fun _ => rfl

/-! ### Cores -/
def oc (k : Nat) : List Core := (ot k 0).map Tk.core
theorem ot_core (k p : Nat) (hk : k < 3) : (ot k p).map Tk.core = oc k := by
  revert k
  refine three ?_ ?_ ?_ <;> rfl
theorem ots_core : ∀ (ks : List Nat), (∀ k ∈ ks, k < 3) → ∀ p, (ots ks p).map Tk.core = ks.flatMap oc
  | [], _, _ => rfl
  | k :: ks, h, p => by
    rw [ots, List.map_append, ot_core k p (h k (List.mem_cons_self ..)), ots_core ks (fun x hx => h x (List.mem_cons_of_mem _ hx)), List.flatMap_cons]
theorem shuts_core : ∀ n p, (shuts n p).map Tk.core = List.replicate n Ps.cs
  | 0, _ => rfl
  | n + 1, p => by rw [shuts, List.map_cons, shuts_core n (p + 1)]; rfl
theorem ots_append (a b : List Nat) : ∀ p, ots (a ++ b) p = ots a p ++ ots b (p + (a.flatMap opn).length) := by
  induction a with
  | nil => intro p; rfl
  | cons k a ih => intro p; rw [List.cons_append, ots, ots, ih, List.append_assoc, List.flatMap_cons, List.length_append, Nat.add_assoc]

theorem full_toks (ks : List Nat) (h : ∀ k ∈ ks, k < 3) (hl : (full ks).length ≤ 6000) : ∃ z, Lx.toks (full ks) = .good ([⟨1, 0, [103, 111], 0⟩, ⟨3, 3, [123], 0⟩] ++ (ots ks 4 ++ (shuts (ks.length + 1) z ++ [⟨4, (full ks).length, [], 0⟩]))) := by
  have h1 := (head_lex.app (opns_lex ks h)).app (shuts_lex (ks.length + 1))
  have h2 := h1 0 [] ((full ks).length + 1) (by rw [List.append_nil]; exact Nat.lt_succ_self _)
  rw [List.append_nil] at h2
  refine ⟨(head ++ ks.flatMap opn).length, ?_⟩
  unfold Lx.toks
  rw [if_neg (by omega)]
  show Lx.run ((full ks).length + 1) 0 (head ++ ks.flatMap opn ++ List.replicate (ks.length + 1) 125) = _
  rw [h2]
  have e : Lx.run ((full ks).length + 1) (0 + (head ++ ks.flatMap opn ++ List.replicate (ks.length + 1) 125).length) [] = .good [⟨4, (full ks).length, [], 0⟩] := by
    show Lx.Out.good [⟨4, 0 + _, [], 0⟩] = _
    rw [Nat.zero_add]; rfl
  rw [e]
  simp only [Lx.Out.pre, Nat.zero_add, List.append_assoc]
  rfl

/-! ### How it is read -/
/-- What is left within, and the braces that close it. -/
def L (ks : List Nat) (m : List Core) : List Core := ks.flatMap oc ++ (List.replicate ks.length Ps.cs ++ Ps.cs :: m)
theorem L_nil (m : List Core) : L [] m = Ps.cs :: m := rfl
theorem L_cons (k : Nat) (ks : List Nat) (m : List Core) : L (k :: ks) m = oc k ++ L ks (Ps.cs :: m) := by
  unfold L
  rw [List.flatMap_cons, List.append_assoc, List.length_cons, List.replicate_succ']
  simp
theorem read_x (m : List Core) : Px.read ((1, [120], 0) :: Ps.co :: m) = (some (Px.nameE [120]), Ps.co :: m) := by
  have hg : Ps.GE (Px.nameE [120]) := ⟨.name _ (by decide), by decide +kernel, by decide +kernel⟩
  exact Ps.read_at (x := Px.nameE [120]) hg (Ps.ok_brace 123 (.inl rfl) m)
theorem read_1 (m : List Core) : Px.read ((2, [49], 1) :: Ps.co :: m) = (some (Px.numE 1), Ps.co :: m) := by
  have hg : Ps.GE (Px.numE 1) := ⟨.num _ (by decide), by decide +kernel, by decide +kernel⟩
  have hc : Px.C (Px.numE 1) 1 = [(2, [49], 1)] := by decide +kernel
  have := Ps.read_at (x := Px.numE 1) hg (Ps.ok_brace 123 (.inl rfl) m)
  rw [hc] at this
  exact this
theorem block_open (pl : Pl) (e : Nat) (m : List Core) : block pl (e + 1) (Ps.co :: m) = stmts (stmt pl (block pl e)) (m.length + 1) [] m := by
  rw [block, if_pos (show (hd (Ps.co :: m)).2.1 = tOpen from rfl)]; rfl
theorem sts_shut (sp : R St) (F : Nat) (acc : List St) (m : List Core) : stmts sp (F + 1) acc (Ps.cs :: m) = (some acc, m) := by
  rw [stmts, if_pos (show (hd (Ps.cs :: m)).2.1 = tShut from rfl)]; rfl

/-- An opener's statement, by what its block is read as. -/
theorem stmt_opn (pl : Pl) (blk : R (List St)) (k : Nat) (hk : k < 3) (m : List Core) (hsh : ∀ r, blk (Ps.co :: Ps.cs :: r) = (some [], r)) {b : List St} {m' : List Core} (hb : blk (Ps.co :: m) = (some b, m')) (hm : (hd m').2.1 ≠ tElse) : ∃ s, stmt pl blk (oc k ++ m) = (some s, m') := by
  revert k
  refine three ?_ ?_ ?_
  · refine ⟨.mk 7 e0 e0 0 (Px.nameE [120]) b [] (pl (Ps.cw [105, 102] :: (1, [120], 0) :: Ps.co :: m).length).1 (pl (Ps.cw [105, 102] :: (1, [120], 0) :: Ps.co :: m).length).2, ?_⟩
    show stmt pl blk (Ps.cw [105, 102] :: (1, [120], 0) :: Ps.co :: m) = _
    rw [Ps.stmt_kw _ _ (show sk [105, 102] ≠ 1 by decide)]
    unfold behind
    rw [if_neg (show ¬ sk [105, 102] = 4 by decide), if_neg (show ¬ sk [105, 102] = 5 by decide), if_neg (show ¬ sk [105, 102] = 6 by decide), if_pos (show sk [105, 102] = 7 by decide)]
    rw [Pp.bind_some (read_x m), Pp.bind_some hb, Pp.bind_some (show other blk m' = (some [], m') by unfold other; rw [if_neg hm])]
    rfl
  · refine ⟨.mk 8 e0 e0 2 ex0 b [] (pl (Ps.cw [114, 101, 112, 101, 97, 116] :: (2, [50], 2) :: Ps.co :: m).length).1 (pl (Ps.cw [114, 101, 112, 101, 97, 116] :: (2, [50], 2) :: Ps.co :: m).length).2, ?_⟩
    show stmt pl blk (Ps.cw [114, 101, 112, 101, 97, 116] :: (2, [50], 2) :: Ps.co :: m) = _
    rw [Ps.stmt_kw _ _ (show sk [114, 101, 112, 101, 97, 116] ≠ 1 by decide)]
    unfold behind
    rw [if_neg (show ¬ sk [114, 101, 112, 101, 97, 116] = 4 by decide), if_neg (show ¬ sk [114, 101, 112, 101, 97, 116] = 5 by decide), if_neg (show ¬ sk [114, 101, 112, 101, 97, 116] = 6 by decide), if_neg (show ¬ sk [114, 101, 112, 101, 97, 116] = 7 by decide), if_pos (show sk [114, 101, 112, 101, 97, 116] = 8 by decide)]
    rw [Pp.bind_some (show number 9 ((2, [50], 2) :: Ps.co :: m) = (some 2, Ps.co :: m) from rfl), Pp.bind_some hb]
    rfl
  · refine ⟨.mk 7 e0 e0 0 (Px.numE 1) [] b (pl (Ps.cw [105, 102] :: (2, [49], 1) :: Ps.co :: Ps.cs :: Ps.cw tElse :: Ps.co :: m).length).1 (pl (Ps.cw [105, 102] :: (2, [49], 1) :: Ps.co :: Ps.cs :: Ps.cw tElse :: Ps.co :: m).length).2, ?_⟩
    show stmt pl blk (Ps.cw [105, 102] :: (2, [49], 1) :: Ps.co :: Ps.cs :: Ps.cw tElse :: Ps.co :: m) = _
    rw [Ps.stmt_kw _ _ (show sk [105, 102] ≠ 1 by decide)]
    unfold behind
    rw [if_neg (show ¬ sk [105, 102] = 4 by decide), if_neg (show ¬ sk [105, 102] = 5 by decide), if_neg (show ¬ sk [105, 102] = 6 by decide), if_pos (show sk [105, 102] = 7 by decide)]
    rw [Pp.bind_some (read_1 _), Pp.bind_some (hsh _), Pp.bind_some (show other blk (Ps.cw tElse :: Ps.co :: m) = (some b, m') by unfold other; rw [if_pos (show (hd (Ps.cw tElse :: Ps.co :: m)).2.1 = tElse from rfl)]; exact hb)]
    rfl
theorem not_shut (k : Nat) (hk : k < 3) (m : List Core) : (hd (oc k ++ m)).2.1 ≠ tShut := by
  revert k
  refine three ?_ ?_ ?_
  · show ([105, 102] : List UInt8) ≠ tShut; decide
  · show ([114, 101, 112, 101, 97, 116] : List UInt8) ≠ tShut; decide
  · show ([105, 102] : List UInt8) ≠ tShut; decide
theorem oc_len (k : Nat) (hk : k < 3) : 3 ≤ (oc k).length := by
  revert k
  refine three ?_ ?_ ?_ <;> decide
theorem sts_reads (pl : Pl) : ∀ (ks : List Nat), (∀ k ∈ ks, k < 3) → ∀ e, ks.length ≤ e → ∀ m acc F, (L ks m).length < F → ∃ l, stmts (stmt pl (block pl e)) F acc (L ks m) = (some l, m)
  | [], _, e, _, m, acc, F, hF => by
    cases F with
    | zero => omega
    | succ F => exact ⟨acc, by rw [L_nil, sts_shut]⟩
  | k :: ks, h, e, he, m, acc, F, hF => by
    cases F with
    | zero => omega
    | succ F =>
      cases e with
      | zero => simp at he
      | succ e =>
        have hk := h k (List.mem_cons_self ..)
        rw [L_cons] at hF ⊢
        obtain ⟨b, hb⟩ := sts_reads pl ks (fun x hx => h x (List.mem_cons_of_mem _ hx)) e (by simpa using he) (Ps.cs :: m) [] ((L ks (Ps.cs :: m)).length + 1) (by omega)
        obtain ⟨s, hs⟩ := stmt_opn pl (block pl (e + 1)) k hk (L ks (Ps.cs :: m)) (fun r => by rw [block_open, sts_shut]) (b := b) (m' := Ps.cs :: m) (by rw [block_open]; exact hb) (by show ([125] : List UInt8) ≠ _; decide)
        have h3 := oc_len k hk
        have hlm : (L ks (Ps.cs :: m)).length = (ks.flatMap oc).length + (ks.length + (m.length + 1 + 1)) := by simp [L]
        rw [List.length_append] at hF
        cases F with
        | zero => omega
        | succ F =>
          refine ⟨acc ++ [s], ?_⟩
          rw [stmts, if_neg (not_shut k hk _), hs]
          simp only []
          rw [sts_shut]
/-- Where it fails: at the brace of the first block that is too deep. -/
theorem stmt_fails (pl : Pl) (blk : R (List St)) (k : Nat) (hk : k < 3) (m : List Core) {m' : List Core} (h0 : ∀ r, blk (Ps.co :: r) = (none, Ps.co :: r)) (hm : m' = (oc k).drop 2 ++ m) : stmt pl blk (oc k ++ m) = (none, m') := by
  subst hm
  revert k
  refine three ?_ ?_ ?_
  · show stmt pl blk (Ps.cw [105, 102] :: (1, [120], 0) :: Ps.co :: m) = (none, Ps.co :: m)
    rw [Ps.stmt_kw _ _ (show sk [105, 102] ≠ 1 by decide)]
    unfold behind
    rw [if_neg (show ¬ sk [105, 102] = 4 by decide), if_neg (show ¬ sk [105, 102] = 5 by decide), if_neg (show ¬ sk [105, 102] = 6 by decide), if_pos (show sk [105, 102] = 7 by decide)]
    rw [Pp.bind_some (read_x m), Pp.bind_none (h0 m)]
  · show stmt pl blk (Ps.cw [114, 101, 112, 101, 97, 116] :: (2, [50], 2) :: Ps.co :: m) = (none, Ps.co :: m)
    rw [Ps.stmt_kw _ _ (show sk [114, 101, 112, 101, 97, 116] ≠ 1 by decide)]
    unfold behind
    rw [if_neg (show ¬ sk [114, 101, 112, 101, 97, 116] = 4 by decide), if_neg (show ¬ sk [114, 101, 112, 101, 97, 116] = 5 by decide), if_neg (show ¬ sk [114, 101, 112, 101, 97, 116] = 6 by decide), if_neg (show ¬ sk [114, 101, 112, 101, 97, 116] = 7 by decide), if_pos (show sk [114, 101, 112, 101, 97, 116] = 8 by decide)]
    rw [Pp.bind_some (show number 9 ((2, [50], 2) :: Ps.co :: m) = (some 2, Ps.co :: m) from rfl), Pp.bind_none (h0 m)]
  · show stmt pl blk (Ps.cw [105, 102] :: (2, [49], 1) :: Ps.co :: Ps.cs :: Ps.cw tElse :: Ps.co :: m) = (none, Ps.co :: Ps.cs :: Ps.cw tElse :: Ps.co :: m)
    rw [Ps.stmt_kw _ _ (show sk [105, 102] ≠ 1 by decide)]
    unfold behind
    rw [if_neg (show ¬ sk [105, 102] = 4 by decide), if_neg (show ¬ sk [105, 102] = 5 by decide), if_neg (show ¬ sk [105, 102] = 6 by decide), if_pos (show sk [105, 102] = 7 by decide)]
    rw [Pp.bind_some (read_1 _), Pp.bind_none (h0 _)]
/-- An opener whose block fails fails there. -/
theorem stmt_within (pl : Pl) (blk : R (List St)) (k : Nat) (hk : k < 3) (m : List Core) (hsh : ∀ r, blk (Ps.co :: Ps.cs :: r) = (some [], r)) {m' : List Core} (hb : blk (Ps.co :: m) = (none, m')) : stmt pl blk (oc k ++ m) = (none, m') := by
  revert k
  refine three ?_ ?_ ?_
  · show stmt pl blk (Ps.cw [105, 102] :: (1, [120], 0) :: Ps.co :: m) = _
    rw [Ps.stmt_kw _ _ (show sk [105, 102] ≠ 1 by decide)]
    unfold behind
    rw [if_neg (show ¬ sk [105, 102] = 4 by decide), if_neg (show ¬ sk [105, 102] = 5 by decide), if_neg (show ¬ sk [105, 102] = 6 by decide), if_pos (show sk [105, 102] = 7 by decide)]
    rw [Pp.bind_some (read_x m), Pp.bind_none hb]
  · show stmt pl blk (Ps.cw [114, 101, 112, 101, 97, 116] :: (2, [50], 2) :: Ps.co :: m) = _
    rw [Ps.stmt_kw _ _ (show sk [114, 101, 112, 101, 97, 116] ≠ 1 by decide)]
    unfold behind
    rw [if_neg (show ¬ sk [114, 101, 112, 101, 97, 116] = 4 by decide), if_neg (show ¬ sk [114, 101, 112, 101, 97, 116] = 5 by decide), if_neg (show ¬ sk [114, 101, 112, 101, 97, 116] = 6 by decide), if_neg (show ¬ sk [114, 101, 112, 101, 97, 116] = 7 by decide), if_pos (show sk [114, 101, 112, 101, 97, 116] = 8 by decide)]
    rw [Pp.bind_some (show number 9 ((2, [50], 2) :: Ps.co :: m) = (some 2, Ps.co :: m) from rfl), Pp.bind_none hb]
  · show stmt pl blk (Ps.cw [105, 102] :: (2, [49], 1) :: Ps.co :: Ps.cs :: Ps.cw tElse :: Ps.co :: m) = _
    rw [Ps.stmt_kw _ _ (show sk [105, 102] ≠ 1 by decide)]
    unfold behind
    rw [if_neg (show ¬ sk [105, 102] = 4 by decide), if_neg (show ¬ sk [105, 102] = 5 by decide), if_neg (show ¬ sk [105, 102] = 6 by decide), if_pos (show sk [105, 102] = 7 by decide)]
    rw [Pp.bind_some (read_1 _), Pp.bind_some (hsh _), Pp.bind_none (show other blk (Ps.cw tElse :: Ps.co :: m) = (none, m') by unfold other; rw [if_pos (show (hd (Ps.cw tElse :: Ps.co :: m)).2.1 = tElse from rfl)]; exact hb)]
theorem sts_fails (pl : Pl) (k : Nat) (hk : k < 3) (m : List Core) : ∀ (k1 : List Nat), (∀ x ∈ k1, x < 3) → ∀ acc F, (k1.flatMap oc ++ (oc k ++ m)).length < F → stmts (stmt pl (block pl k1.length)) F acc (k1.flatMap oc ++ (oc k ++ m)) = (none, (oc k).drop 2 ++ m)
  | [], _, acc, F, hF => by
    cases F with
    | zero => omega
    | succ F =>
      rw [List.flatMap_nil, List.nil_append, stmts, if_neg (not_shut k hk _), stmt_fails pl _ k hk m (fun r => by rw [List.length_nil, block]) rfl]
  | j :: k1, h, acc, F, hF => by
    cases F with
    | zero => omega
    | succ F =>
      have hj := h j (List.mem_cons_self ..)
      rw [List.flatMap_cons, List.append_assoc] at hF ⊢
      have ih := sts_fails pl k hk m k1 (fun x hx => h x (List.mem_cons_of_mem _ hx)) [] ((k1.flatMap oc ++ (oc k ++ m)).length + 1) (by omega)
      rw [stmts, if_neg (not_shut j hj _), List.length_cons]
      rw [stmt_within pl (block pl (k1.length + 1)) j hj (k1.flatMap oc ++ (oc k ++ m)) (fun r => by rw [block_open, sts_shut]) (m' := (oc k).drop 2 ++ m) (by rw [block_open]; exact ih)]
theorem thr_start (pl : Pl) (m : List Core) : prog pl (Ps.cw tGo :: Ps.co :: m) = Pp.bind (threads pl 4 []) (fun t => ended [] t) (Ps.cw tGo :: Ps.co :: m) := by
  unfold prog
  rw [Pp.bind_some (x := []) (m := Ps.cw tGo :: Ps.co :: m) (by rw [decls, if_pos (show dk (hd (Ps.cw tGo :: Ps.co :: m)).2.1 = 0 by show dk tGo = 0; decide)])]
theorem full_reads (pl : Pl) (ks : List Nat) (h : ∀ k ∈ ks, k < 3) (hl : ks.length ≤ 7) : ∃ b, prog pl (Ps.cw tGo :: Ps.co :: L ks [(4, [], 0)]) = (some ([], [b]), [(4, [], 0)]) := by
  obtain ⟨b, hb⟩ := sts_reads pl ks h 7 hl [(4, [], 0)] [] ((L ks [(4, [], 0)]).length + 1) (by omega)
  refine ⟨b, ?_⟩
  rw [thr_start, Pp.bind_some (x := [b]) (m := [(4, [], 0)])]
  · rfl
  · rw [threads, if_pos (show (hd (Ps.cw tGo :: Ps.co :: L ks [(4, [], 0)])).2.1 = tGo from rfl)]
    simp only [List.tail_cons]
    rw [block_open, hb]
    simp only []
    rw [threads, if_neg (show ¬ (hd [(4, [], 0)]).2.1 = tGo by show ¬ (([] : List UInt8) = tGo); decide)]
    rfl
theorem full_fails (pl : Pl) (k1 : List Nat) (k : Nat) (h1 : ∀ x ∈ k1, x < 3) (hk : k < 3) (hl : k1.length = 7) (m : List Core) : prog pl (Ps.cw tGo :: Ps.co :: (k1.flatMap oc ++ (oc k ++ m))) = (none, (oc k).drop 2 ++ m) := by
  have hb := sts_fails pl k hk m k1 h1 [] ((k1.flatMap oc ++ (oc k ++ m)).length + 1) (by omega)
  rw [hl] at hb
  rw [thr_start, Pp.bind_none (m := (oc k).drop 2 ++ m)]
  rw [threads, if_pos (show (hd (Ps.cw tGo :: Ps.co :: (k1.flatMap oc ++ (oc k ++ m)))).2.1 = tGo from rfl)]
  simp only [List.tail_cons]
  rw [block_open, hb]
/-- How the scan goes on. -/
theorem scan_step (s : List UInt8) (p : Nat) (o : Int) (h : p < s.length) : scan (s.drop p) p o = if s[p] = 123 then (if o + 1 = 9 then some p else scan (s.drop (p + 1)) (p + 1) (o + 1)) else if s[p] = 125 then scan (s.drop (p + 1)) (p + 1) (o - 1) else scan (s.drop (p + 1)) (p + 1) o := by
  rw [List.drop_eq_getElem_cons h, scan]
theorem scan_end (s : List UInt8) (p : Nat) (o : Int) (h : s.length ≤ p) : scan (s.drop p) p o = none := by
  rw [List.drop_eq_nil_of_le h, scan]
theorem opn_len (k : Nat) (hk : k < 3) : (opn k).length ≤ 16 := by
  revert k
  refine three ?_ ?_ ?_ <;> decide
theorem opns_len : ∀ ks : List Nat, (∀ k ∈ ks, k < 3) → (ks.flatMap opn).length ≤ 16 * ks.length
  | [], _ => by simp
  | k :: ks, h => by
    have h1 := opn_len k (h k (List.mem_cons_self ..))
    have h2 := opns_len ks fun x hx => h x (List.mem_cons_of_mem _ hx)
    rw [List.flatMap_cons, List.length_append, List.length_cons]; omega
theorem txt_len (ks : List Nat) (h : ∀ k ∈ ks, k < 3) : (txt ks).length ≤ 4 + 16 * ks.length := by
  have := opns_len ks h
  unfold txt head; rw [List.length_append]; simp only [List.length_cons, List.length_nil]; omega
theorem ascii (ks : List Nat) (h : ∀ k ∈ ks, k < 3) : ∀ c ∈ txt ks, c.toNat < 128 := by
  intro c hc
  unfold txt at hc
  rcases List.mem_append.1 hc with hc | hc
  · simp only [head, List.mem_cons, List.not_mem_nil, or_false] at hc
    rcases hc with rfl | rfl | rfl | rfl <;> decide
  · obtain ⟨k, hk, hc⟩ := List.mem_flatMap.1 hc
    have : ∀ k, k < 3 → ∀ c ∈ opn k, c.toNat < 128 := three (by decide) (by decide) (by decide)
    exact this k (h k hk) c hc
#print axioms full_fails
end Dp
end Go.Proofs.YteaopephdjoegaaDoor
