/- The lines of a program that is shown: how many, how deep each stands: said plainly. No program, no condition. -/
import Derived.Test.YtkobdephobaopaaGreatDoorPyA
import Derived.Test.YtkobdephobaopaaGreatDoorRl
namespace Go.Proofs.YtkobdephobaopaaGreatDoor
open Go.RowKit
namespace Ps.Ql
open Lx (Core)
open Px (hd isNm ba e0 T C D Wf)
open Pp
open Ps

/-- A line: how deep it stands, what it says. -/
abbrev Li := Nat × List UInt8
def put (x : Li) : List UInt8 := tabs x.1 ++ (x.2 ++ [10])
def puts (l : List Li) : List UInt8 := l.flatMap put
theorem puts_append (l m : List Li) : puts (l ++ m) = puts l ++ puts m := by simp [puts]
/-- A line that says something, and is one. -/
structure One (y : List UInt8) : Prop where
  ne : y ≠ []
  tab : y.head? ≠ some 9
  feed : ∀ c ∈ y, c ≠ 10
/-- How deep the next line stands. -/
def step (deep : Int) (y : List UInt8) : Int := (if y.head? = some 125 then deep - 1 else deep) + (if y.getLast? = some 123 then 1 else 0)
/-- Lines of which each stands where it may. -/
def goes : List Li → Int → Int → Prop
  | [], a, b => a = b
  | x :: l, a, b => One x.2 ∧ (x.1 : Int) = (if x.2.head? = some 125 then a - 1 else a) ∧ goes l (step a x.2) b
theorem goes_append : ∀ (l m : List Li) (a b c : Int), goes l a b → goes m b c → goes (l ++ m) a c
  | [], m, a, b, c, h, k => by rw [goes] at h; subst h; exact k
  | x :: l, m, a, b, c, h, k => by
    rw [goes] at h
    rw [List.cons_append, goes]
    exact ⟨h.1, h.2.1, goes_append l m _ _ _ h.2.2 k⟩

/-- The words of a statement, up to its first brace. -/
def head (k : Int) (s o : ByteArray) (n : Int) (e : Ex) : List UInt8 :=
  if k = 7 then [105, 102, 32] ++ T e 1 ++ [32, 123] else if k = 8 then [114, 101, 112, 101, 97, 116, 32] ++ Lib.itoa n ++ [32, 123] else line k s o n e 0 [] none
mutual
def lS : St → Nat → List Li
  | .mk k s o n e b c _ _, d =>
    if k = 7 ∨ k = 8 then (d, head k s o n e) :: (lL b (d + 1) ++ ((if c.isEmpty then [] else (d, [125, 32, 101, 108, 115, 101, 32, 123]) :: lL c (d + 1)) ++ [(d, [125])]))
    else [(d, head k s o n e)]
def lL : List St → Nat → List Li
  | [], _ => []
  | x :: l, d => lS x d ++ lL l d
end
theorem lL_texts_of (d : Nat) : ∀ l : List St, (∀ x ∈ l, puts (lS x d) = text x d) → puts (lL l d) = texts l d
  | [], _ => by rw [lL, texts]; rfl
  | x :: l, H => by rw [lL, texts, puts_append, H x (List.mem_cons_self ..), lL_texts_of d l fun y hy => H y (List.mem_cons_of_mem _ hy)]
theorem line_any_d {k : Int} {s o : ByteArray} {n : Int} {e : Ex} (d : Nat) (h7 : k ≠ 7) (h8 : k ≠ 8) (b : List UInt8) (c : Option (List UInt8)) : line k s o n e d b c = line k s o n e 0 [] none := by
  unfold line; rw [if_neg h7, if_neg h8, if_neg h7, if_neg h8]
theorem lS_leaf {k : Int} {s o : ByteArray} {n : Int} {e : Ex} {p q : Nat} (d : Nat) (h7 : k ≠ 7) (h8 : k ≠ 8) : lS (.mk k s o n e [] [] p q) d = [(d, head k s o n e)] ∧ puts (lS (.mk k s o n e [] [] p q) d) = text (.mk k s o n e [] [] p q) d := by
  have h : ¬ (k = 7 ∨ k = 8) := by rintro (h | h); exact h7 h; exact h8 h
  have e1 : lS (.mk k s o n e [] [] p q) d = [(d, head k s o n e)] := by rw [lS, if_neg h]
  refine ⟨e1, ?_⟩
  rw [e1, text, line_any_d d h7 h8]
  simp [puts, put, head, h7, h8]
theorem lS_text {e : Nat} {s : St} (h : Ps.Gd e s) : ∀ d, puts (lS s d) = text s d := by
  induction h with
  | assign e a x p q ha hx => exact fun d => (lS_leaf d (by decide) (by decide)).2
  | word e k a p q hk ha => exact fun d => (lS_leaf d (by omega) (by omega)).2
  | send e a x p q ha hx => exact fun d => (lS_leaf d (by decide) (by decide)).2
  | recv e a b p q ha hb => exact fun d => (lS_leaf d (by decide) (by decide)).2
  | print e x p q hx => exact fun d => (lS_leaf d (by decide) (by decide)).2
  | cond e x b c p q hx _ _ ib ic =>
    intro d
    have h1 := lL_texts_of (d + 1) b fun y hy => ib y hy (d + 1)
    have h2 := lL_texts_of (d + 1) c fun y hy => ic y hy (d + 1)
    rw [lS, if_pos (.inl rfl), text]
    cases c with
    | nil =>
      show _ = tabs d ++ (line 7 e0 e0 0 x d (texts b (d + 1)) none ++ [10])
      rw [line_if, ← h1]
      simp [puts, put, head]
    | cons y c =>
      show _ = tabs d ++ (line 7 e0 e0 0 x d (texts b (d + 1)) (some (texts (y :: c) (d + 1))) ++ [10])
      rw [line_ifelse, ← h1, ← h2]
      simp [puts, put, head]
  | rep e n b p q hn _ ib =>
    intro d
    have h1 := lL_texts_of (d + 1) b fun y hy => ib y hy (d + 1)
    rw [lS, if_pos (.inr rfl), text]
    show _ = tabs d ++ (line 8 e0 e0 n ex0 d (texts b (d + 1)) none ++ [10])
    rw [line_rep, ← h1]
    simp [puts, put, head]
theorem lL_text {e : Nat} (l : List St) (h : ∀ s ∈ l, Ps.Gd e s) (d : Nat) : puts (lL l d) = texts l d := lL_texts_of d l fun x hx => lS_text (h x hx) d

/-! ### What a line says -/
theorem lower_ne {c : UInt8} (h : Lx.lower c = true) : c ≠ 10 ∧ c ≠ 123 ∧ c ≠ 9 ∧ c ≠ 125 := by
  refine ⟨?_, ?_, ?_, ?_⟩ <;> (rintro rfl; exact absurd h (by decide))
theorem digit_ne {c : UInt8} (h : Lx.digit c = true) : c ≠ 10 ∧ c ≠ 123 ∧ c ≠ 9 ∧ c ≠ 125 := by
  refine ⟨?_, ?_, ?_, ?_⟩ <;> (rintro rfl; exact absurd h (by decide))
/-- Neither a line feed nor an open brace is in it. -/
def Cl (l : List UInt8) : Prop := ∀ c ∈ l, c ≠ 10 ∧ c ≠ 123
theorem Cl.app {l m : List UInt8} (h : Cl l) (k : Cl m) : Cl (l ++ m) := fun c hc => (List.mem_append.1 hc).elim (h c) (k c)
theorem Cl.of {l : List UInt8} (h : (l.all fun c => !(c == 10) && !(c == 123)) = true) : Cl l := fun c hc => by
  have := List.all_eq_true.1 h c hc
  simp only [Bool.and_eq_true, Bool.not_eq_true', beq_eq_false_iff_ne] at this
  exact this
theorem word_cl {t : List UInt8} (h : Lx.isWord t = true) : Cl t ∧ ∃ c r, t = c :: r ∧ c ≠ 9 ∧ c ≠ 125 := by
  cases t with
  | nil => cases h
  | cons c r =>
    unfold Lx.isWord at h
    simp only [Bool.and_eq_true, List.all_eq_true] at h
    have hc : Lx.lower c = true := h.1.1
    have hr : ∀ x ∈ r, Lx.goes x = true := h.1.2
    refine ⟨fun x hx => ?_, c, r, rfl, (lower_ne hc).2.2.1, (lower_ne hc).2.2.2⟩
    rcases List.mem_cons.1 hx with rfl | hx
    · exact ⟨(lower_ne hc).1, (lower_ne hc).2.1⟩
    · have := hr x hx
      unfold Lx.goes at this
      rw [Bool.or_eq_true] at this
      rcases this with g | g
      · exact ⟨(lower_ne g).1, (lower_ne g).2.1⟩
      · exact ⟨(digit_ne g).1, (digit_ne g).2.1⟩
theorem nm_cl {t : List UInt8} (h : isNm t = true) : Cl t ∧ ∃ c r, t = c :: r ∧ c ≠ 9 ∧ c ≠ 125 := word_cl (nm_word h)
theorem itoa_cl (n : Nat) : Cl (Lib.itoa n) := by
  intro c hc
  have e : Lib.itoa (n : Int) = Lib.decDigits n := by unfold Lib.itoa; simp
  rw [e] at hc
  have := (Px.dec_facts n).2.1 c hc
  exact ⟨(digit_ne this).1, (digit_ne this).2.1⟩
theorem sgn_cl : ∀ k : Nat, 4 ≤ k → k ≤ 10 → Cl (Px.sgn (k : Int)) := Px.seven (.of (by decide)) (.of (by decide)) (.of (by decide)) (.of (by decide)) (.of (by decide)) (.of (by decide)) (.of (by decide))
theorem tpw_cl {k : Int} {t : List UInt8} {l : Nat} (h : Cl t) : Cl (Px.tpw k t l) := by
  unfold Px.tpw
  split
  · exact (Cl.of (l := [40]) (by decide)).app (h.app (.of (l := [41]) (by decide)))
  · exact h
theorem tb_cl {x : Ex} (h : Wf x) : Cl (Px.tb x) := by
  induction h with
  | num n hn => rw [Px.tb_num]; exact itoa_cl n
  | name t ht => rw [Px.tb_name]; exact (nm_cl ht).1
  | minus y _ ih => rw [Px.tb_minus]; exact (Cl.of (l := [45]) (by decide)).app (tpw_cl ih)
  | bin k y z h4 h10 _ _ iy iz =>
    rw [Px.tb_bin k y z h4]
    exact (tpw_cl iy).app ((Cl.of (l := [32]) (by decide)).app ((sgn_cl k h4 h10).app ((Cl.of (l := [32]) (by decide)).app (tpw_cl iz))))
theorem T_cl {x : Ex} (h : Wf x) (l : Nat) : Cl (T x l) := tpw_cl (tb_cl h)
/-- A line that opens no block. -/
theorem one_plain {y : List UInt8} (h : Cl y) {c : UInt8} {r : List UInt8} (e : y = c :: r) (h9 : c ≠ 9) (h1 : c ≠ 125) : One y ∧ y.head? ≠ some 125 ∧ y.getLast? ≠ some 123 := by
  subst e
  refine ⟨⟨by simp, by simpa using h9, fun c hc => (h c hc).1⟩, by simpa using h1, fun hl => ?_⟩
  exact (h 123 (List.mem_of_getLast? hl)).2 rfl
/-- A line that opens one. -/
theorem one_open {y : List UInt8} (h : Cl y) {c : UInt8} {r : List UInt8} (e : y = c :: r) (h9 : c ≠ 9) (h1 : c ≠ 125) : One (y ++ [32, 123]) ∧ (y ++ [32, 123]).head? ≠ some 125 ∧ (y ++ [32, 123]).getLast? = some 123 := by
  subst e
  refine ⟨⟨by simp, by simpa using h9, fun c hc => ?_⟩, by simpa using h1, by rw [List.getLast?_append]; rfl⟩
  rcases List.mem_append.1 hc with hc | hc
  · exact (h c hc).1
  · simp at hc; rcases hc with rfl | rfl <;> decide
theorem goes_of {y : List UInt8} {d : Nat} {a b : Int} (h1 : One y) (h2 : (d : Int) = (if y.head? = some 125 then a - 1 else a)) (h3 : (if y.head? = some 125 then a - 1 else a) + (if y.getLast? = some 123 then 1 else 0) = b) : goes [(d, y)] a b := ⟨h1, h2, h3⟩
theorem goes_plain {y : List UInt8} {d : Nat} (h : One y ∧ y.head? ≠ some 125 ∧ y.getLast? ≠ some 123) : goes [(d, y)] d d :=
  goes_of h.1 (by rw [if_neg h.2.1]) (by rw [if_neg h.2.1, if_neg h.2.2]; omega)
theorem goes_open {y : List UInt8} {d : Nat} (h : One y ∧ y.head? ≠ some 125 ∧ y.getLast? = some 123) : goes [(d, y)] d ((d + 1 : Nat) : Int) :=
  goes_of h.1 (by rw [if_neg h.2.1]) (by rw [if_neg h.2.1, if_pos h.2.2]; omega)
theorem goes_else (d : Nat) : goes [(d, [125, 32, 101, 108, 115, 101, 32, 123])] ((d + 1 : Nat) : Int) ((d + 1 : Nat) : Int) :=
  goes_of ⟨by decide, by decide, by decide⟩ (by rw [if_pos (by decide)]; omega) (by rw [if_pos (by decide), if_pos (by decide)]; omega)
theorem goes_shut (d : Nat) : goes [(d, [125])] ((d + 1 : Nat) : Int) d :=
  goes_of ⟨by decide, by decide, by decide⟩ (by rw [if_pos (by decide)]; omega) (by rw [if_pos (by decide), if_neg (by decide)]; omega)
theorem lL_goes_of (d : Nat) : ∀ l : List St, (∀ x ∈ l, goes (lS x d) d d) → goes (lL l d) d d
  | [], _ => by rw [lL, goes]
  | x :: l, H => by rw [lL]; exact goes_append _ _ _ _ _ (H x (List.mem_cons_self ..)) (lL_goes_of d l fun y hy => H y (List.mem_cons_of_mem _ hy))
theorem head_leaf {k : Int} {s o : ByteArray} {n : Int} {e : Ex} (h7 : k ≠ 7) (h8 : k ≠ 8) : head k s o n e = line k s o n e 0 [] none := by unfold head; rw [if_neg h7, if_neg h8]
theorem lS_goes {e : Nat} {s : St} (h : Ps.Gd e s) : ∀ d, goes (lS s d) d d := by
  induction h with
  | assign e a x p q ha hx =>
    intro d
    rw [(lS_leaf d (by decide) (by decide)).1, head_leaf (by decide) (by decide), line_assign]
    obtain ⟨h1, c, r, h2, h3, h4⟩ := nm_cl ha
    exact goes_plain (one_plain (c := c) (r := r ++ ([32, 61, 32] ++ T x 1)) (h1.app ((Cl.of (by decide)).app (T_cl hx.wf 1))) (by rw [h2]; rfl) h3 h4)
  | word e k a p q hk ha =>
    intro d
    rw [(lS_leaf d (by omega) (by omega)).1, head_leaf (by omega) (by omega), line_word hk]
    obtain ⟨h1, -⟩ := nm_cl ha
    rcases hk with rfl | rfl | rfl | rfl
    all_goals exact goes_plain (one_plain (((Cl.of (by decide)).app (Cl.of (by decide))).app h1) (by rfl) (by decide) (by decide))
  | send e a x p q ha hx =>
    intro d
    rw [(lS_leaf d (by decide) (by decide)).1, head_leaf (by decide) (by decide), line_send]
    obtain ⟨h1, -⟩ := nm_cl ha
    exact goes_plain (one_plain (((Cl.of (by decide)).app (Cl.of (by decide))).app ((h1.app (Cl.of (by decide))).app (T_cl hx.wf 1))) (by rfl) (by decide) (by decide))
  | recv e a b p q ha hb =>
    intro d
    rw [(lS_leaf d (by decide) (by decide)).1, head_leaf (by decide) (by decide), line_recv]
    obtain ⟨h1, -⟩ := nm_cl ha
    obtain ⟨h2, -⟩ := nm_cl hb
    exact goes_plain (one_plain (((Cl.of (by decide)).app (Cl.of (by decide))).app ((h1.app (Cl.of (by decide))).app h2)) (by rfl) (by decide) (by decide))
  | print e x p q hx =>
    intro d
    rw [(lS_leaf d (by decide) (by decide)).1, head_leaf (by decide) (by decide), line_print]
    exact goes_plain (one_plain (((Cl.of (by decide)).app (Cl.of (by decide))).app (T_cl hx.wf 1)) (by rfl) (by decide) (by decide))
  | cond e x b c p q hx _ _ ib ic =>
    intro d
    have h1 := lL_goes_of (d + 1) b fun y hy => ib y hy (d + 1)
    have h2 := lL_goes_of (d + 1) c fun y hy => ic y hy (d + 1)
    have h0 : goes [(d, head 7 e0 e0 0 x)] d ((d + 1 : Nat) : Int) := goes_open (one_open (y := [105, 102, 32] ++ T x 1) ((Cl.of (by decide)).app (T_cl hx.wf 1)) (by rfl) (by decide) (by decide))
    rw [lS, if_pos (.inl rfl)]
    refine goes_append [_] _ _ _ _ h0 (goes_append _ _ _ _ _ h1 (goes_append _ _ _ _ _ ?_ (goes_shut d)))
    cases c with
    | nil => rw [if_pos List.isEmpty_nil, goes]
    | cons y c => rw [if_neg (by simp)]; exact goes_append [_] _ _ _ _ (goes_else d) h2
  | rep e n b p q hn _ ib =>
    intro d
    have h1 := lL_goes_of (d + 1) b fun y hy => ib y hy (d + 1)
    have h0 : goes [(d, head 8 e0 e0 n ex0)] d ((d + 1 : Nat) : Int) := goes_open (one_open (y := [114, 101, 112, 101, 97, 116, 32] ++ Lib.itoa n) ((Cl.of (by decide)).app (itoa_cl n)) (by rfl) (by decide) (by decide))
    rw [lS, if_pos (.inr rfl)]
    refine goes_append [_] _ _ _ _ h0 (goes_append _ _ _ _ _ h1 (goes_append _ _ _ _ _ ?_ (goes_shut d)))
    rw [if_pos List.isEmpty_nil, goes]
theorem lL_goes {e : Nat} (l : List St) (h : ∀ s ∈ l, Ps.Gd e s) (d : Nat) : goes (lL l d) d d := lL_goes_of d l fun x hx => lS_goes (h x hx) d

/-! ### How many lines -/
/-- How many lines a statement has, beside those within. -/
def cnt (x : St) : Nat := 1 + (if x.kind = 7 ∨ x.kind = 8 then 1 else 0) + (if x.els = [] then 0 else 1)
def cnts (l : List St) : Nat := (l.map cnt).sum
theorem cnts_append (l m : List St) : cnts (l ++ m) = cnts l + cnts m := by simp [cnts]
theorem lL_len_of (d : Nat) : ∀ l : List St, (∀ x ∈ l, (lS x d).length = cnts (St.flat x)) → (lL l d).length = cnts (St.flats l)
  | [], _ => by rw [lL, St.flats]; rfl
  | x :: l, H => by rw [lL, St.flats, List.length_append, cnts_append, H x (List.mem_cons_self ..), lL_len_of d l fun y hy => H y (List.mem_cons_of_mem _ hy)]
theorem cnts_cons (x : St) (l : List St) : cnts (x :: l) = cnt x + cnts l := by simp [cnts]
theorem leaf_len {k : Int} {s o : ByteArray} {n : Int} {e : Ex} {p q : Nat} (d : Nat) (h7 : k ≠ 7) (h8 : k ≠ 8) : (lS (.mk k s o n e [] [] p q) d).length = cnts (St.flat (.mk k s o n e [] [] p q)) := by
  have h : ¬ (k = 7 ∨ k = 8) := by rintro (h | h); exact h7 h; exact h8 h
  rw [(lS_leaf d h7 h8).1, St.flat_eq, cnts_cons]
  show 1 = cnt _ + cnts (St.flats [] ++ St.flats [])
  rw [St.flats]
  show 1 = 1 + (if k = 7 ∨ k = 8 then 1 else 0) + (if ([] : List St) = [] then 0 else 1) + 0
  rw [if_neg h, if_pos rfl]; rfl
theorem lS_len {e : Nat} {s : St} (h : Ps.Gd e s) : ∀ d, (lS s d).length = cnts (St.flat s) := by
  induction h with
  | assign e a x p q ha hx => exact fun d => leaf_len d (by decide) (by decide)
  | word e k a p q hk ha => exact fun d => leaf_len d (by omega) (by omega)
  | send e a x p q ha hx => exact fun d => leaf_len d (by decide) (by decide)
  | recv e a b p q ha hb => exact fun d => leaf_len d (by decide) (by decide)
  | print e x p q hx => exact fun d => leaf_len d (by decide) (by decide)
  | cond e x b c p q hx _ _ ib ic =>
    intro d
    have h1 := lL_len_of (d + 1) b fun y hy => ib y hy (d + 1)
    have h2 := lL_len_of (d + 1) c fun y hy => ic y hy (d + 1)
    rw [lS, if_pos (.inl rfl), St.flat_eq, cnts_cons, cnts_append]
    show _ = 1 + (if (7 : Int) = 7 ∨ (7 : Int) = 8 then 1 else 0) + (if c = [] then 0 else 1) + (cnts (St.flats b) + cnts (St.flats c))
    rw [if_pos (c := (7 : Int) = 7 ∨ (7 : Int) = 8) (.inl rfl), ← h1, ← h2]
    cases c with
    | nil => rw [if_pos List.isEmpty_nil, if_pos (c := ([] : List St) = []) rfl, lL]; simp; omega
    | cons y c => rw [if_neg (c := (y :: c).isEmpty = true) (by simp), if_neg (c := (y :: c) = []) (by simp)]; simp only [List.length_cons, List.length_append, List.length_nil]; omega
  | rep e n b p q hn _ ib =>
    intro d
    have h1 := lL_len_of (d + 1) b fun y hy => ib y hy (d + 1)
    rw [lS, if_pos (.inr rfl), St.flat_eq, cnts_cons, cnts_append]
    show _ = 1 + (if (8 : Int) = 7 ∨ (8 : Int) = 8 then 1 else 0) + (if ([] : List St) = [] then 0 else 1) + (cnts (St.flats b) + cnts (St.flats []))
    rw [if_pos (c := (8 : Int) = 7 ∨ (8 : Int) = 8) (.inr rfl), ← h1, if_pos List.isEmpty_nil, if_pos (c := ([] : List St) = []) rfl, St.flats]
    simp [cnts]; omega

/-! ### A program's lines -/
def dline (x : Dc) : Li := (0, dw x.kind ++ [32] ++ x.name.data.toList ++ (if x.kind = 6 then [32] ++ Lib.itoa x.n else []))
def tlines (b : List St) : List Li := (0, [103, 111, 32, 123]) :: (lL b 1 ++ [(0, [125])])
def plines (d : List Dc) (t : List (List St)) : List Li := d.map dline ++ t.flatMap tlines
theorem dline_put (x : Dc) : put (dline x) = dtext x := by unfold put dline dtext tabs; simp
theorem tlines_put {e : Nat} (b : List St) (h : ∀ s ∈ b, Ps.Gd e s) : puts (tlines b) = ttext b := by
  unfold tlines ttext
  rw [← lL_text b h 1]
  simp [puts, put, tabs]
theorem plines_put {e : Nat} (d : List Dc) (t : List (List St)) (h : ∀ b ∈ t, ∀ s ∈ b, Ps.Gd e s) : puts (plines d t) = shown d t := by
  unfold plines shown
  rw [puts_append]
  congr 1
  · induction d with
    | nil => rfl
    | cons x d ih => show put (dline x) ++ puts (d.map dline) = dtext x ++ dtexts d; rw [ih, dline_put]
  · induction t with
    | nil => rfl
    | cons b t ih =>
      rw [List.flatMap_cons, puts_append, ih (fun y hy => h y (List.mem_cons_of_mem _ hy)), tlines_put b (h b (List.mem_cons_self ..))]
      rfl
theorem dw_cl (k : Int) : Cl (dw k) ∧ ∃ c r, dw k = c :: r ∧ c ≠ 9 ∧ c ≠ 125 := word_cl dw_word
theorem dline_goes {x : Dc} (h : GdD x) : goes [dline x] (0 : Nat) (0 : Nat) := by
  obtain ⟨h1, c, r, h2, h3, h4⟩ := dw_cl x.kind
  refine goes_plain (one_plain (c := c) (r := r ++ [32] ++ x.name.data.toList ++ (if x.kind = 6 then [32] ++ Lib.itoa x.n else [])) ?_ (by rw [h2]; rfl) h3 h4)
  cases h with
  | plain k a p q k1 k5 ha =>
    refine ((h1.app (Cl.of (by decide))).app (nm_cl ha).1).app ?_
    show Cl (if (k : Int) = 6 then _ else _)
    rw [if_neg (by omega)]; exact .of (by decide)
  | chan n a p q hn ha =>
    refine ((h1.app (Cl.of (by decide))).app (nm_cl ha).1).app ?_
    show Cl (if (6 : Int) = 6 then _ else _)
    rw [if_pos rfl]; exact (Cl.of (by decide)).app (itoa_cl n)
theorem tlines_goes {e : Nat} (b : List St) (h : ∀ s ∈ b, Ps.Gd e s) : goes (tlines b) (0 : Nat) (0 : Nat) := by
  have h0 : goes [((0 : Nat), [103, 111, 32, 123])] (0 : Nat) ((0 + 1 : Nat) : Int) := goes_open (one_open (y := [103, 111]) (.of (by decide)) (by rfl) (by decide) (by decide))
  exact goes_append [_] _ _ _ _ h0 (goes_append _ _ _ _ _ (lL_goes b h 1) (goes_shut 0))
theorem plines_goes {e : Nat} (d : List Dc) (t : List (List St)) (hd : ∀ x ∈ d, GdD x) (h : ∀ b ∈ t, ∀ s ∈ b, Ps.Gd e s) : goes (plines d t) 0 0 := by
  unfold plines
  refine goes_append _ _ _ (0 : Nat) _ ?_ ?_
  · induction d with
    | nil => rw [List.map_nil, goes]; rfl
    | cons x d ih => exact goes_append [_] _ _ _ _ (dline_goes (hd x (List.mem_cons_self ..))) (ih fun y hy => hd y (List.mem_cons_of_mem _ hy))
  · induction t with
    | nil => rw [List.flatMap_nil, goes]; rfl
    | cons b t ih =>
      rw [List.flatMap_cons]
      exact goes_append _ _ _ _ _ (tlines_goes b (h b (List.mem_cons_self ..))) (ih fun y hy => h y (List.mem_cons_of_mem _ hy))
theorem plines_len {e : Nat} (d : List Dc) (t : List (List St)) (h : ∀ b ∈ t, ∀ s ∈ b, Ps.Gd e s) : (plines d t).length = d.length + 2 * t.length + cnts (flatTs t) := by
  unfold plines
  rw [List.length_append, List.length_map]
  have : (t.flatMap tlines).length = 2 * t.length + cnts (flatTs t) := by
    induction t with
    | nil => rfl
    | cons b t ih =>
      rw [List.flatMap_cons, List.length_append, ih (fun y hy => h y (List.mem_cons_of_mem _ hy)), flatTs, cnts_append]
      unfold tlines
      rw [List.length_cons, List.length_append, lL_len_of 1 b (fun x hx => lS_len (h b (List.mem_cons_self ..) x hx) 1)]
      simp; omega
  omega
end Ps.Ql
#print axioms Ps.Ql.plines_len
end Go.Proofs.YtkobdephobaopaaGreatDoor
