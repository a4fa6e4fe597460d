/- What is read is printed with no more than was read, and printed it is read the same: said plainly. No program, no condition. -/
import Derived.Test.YtbjdnniklcmcbaaDoorPq
namespace Go.Proofs.YtbjdnniklcmcbaaDoor
namespace Px
open Lx (Core)

/-- Expressions that a text can say. -/
inductive Wf : Ex → Prop where
  | num (n : Nat) : n < 9223372036854775808 → Wf (numE n)
  | name (t : List UInt8) : isNm t = true → Wf (nameE t)
  | minus (y : Ex) : Wf y → Wf (minusE y)
  | bin (k : Nat) (y z : Ex) : 4 ≤ k → k ≤ 10 → Wf y → Wf z → Wf (binE k y z)

def tpw (k : Int) (t : List UInt8) (least : Nat) : List UInt8 := if rnk k < least then 40 :: (t ++ [41]) else t
def tb : Ex → List UInt8
  | .mk k n s l => if k = 1 then Lib.itoa n else if k = 2 then s.data.toList else
    match l with
    | [y] => 45 :: tpw y.kind (tb y) 4
    | [y, z] => tpw y.kind (tb y) (max (rnk k) 2) ++ 32 :: (sgn k ++ 32 :: tpw z.kind (tb z) (rnk k + 1))
    | _ => []
def cpw (k : Int) (c : List Core) (least : Nat) : List Core := if rnk k < least then (3, [40], 0) :: (c ++ [(3, [41], 0)]) else c
def cb : Ex → List Core
  | .mk k n s l => if k = 1 then [(2, Lib.itoa n, n.toNat)] else if k = 2 then [(1, s.data.toList, 0)] else
    match l with
    | [y] => (3, [45], 0) :: cpw y.kind (cb y) 4
    | [y, z] => cpw y.kind (cb y) (max (rnk k) 2) ++ (3, sgn k, 0) :: cpw z.kind (cb z) (rnk k + 1)
    | _ => []
def dpw (k : Int) (d : Nat) (least : Nat) : Nat := if rnk k < least then 1 + d else d
def dp : Ex → Nat
  | .mk k _ _ l =>
    match l with
    | [y] => 1 + dpw y.kind (dp y) 4
    | [y, z] => max (dpw y.kind (dp y) (max (rnk k) 2)) (dpw z.kind (dp z) (rnk k + 1))
    | _ => 0
abbrev T (x : Ex) (l : Nat) : List UInt8 := tpw x.kind (tb x) l
abbrev C (x : Ex) (l : Nat) : List Core := cpw x.kind (cb x) l
abbrev D (x : Ex) (l : Nat) : Nat := dpw x.kind (dp x) l

theorem tb_num (n : Nat) : tb (numE n) = Lib.itoa n := by unfold numE; rw [tb.eq_def]; simp
theorem tb_name (t : List UInt8) : tb (nameE t) = t := by unfold nameE; rw [tb.eq_def]; simp [ba]
theorem tb_minus (y : Ex) : tb (minusE y) = 45 :: T y 4 := by unfold minusE; rw [tb.eq_def]; simp
theorem cb_num (n : Nat) : cb (numE n) = [(2, Lib.itoa n, n)] := by unfold numE; rw [cb.eq_def]; simp
theorem cb_name (t : List UInt8) : cb (nameE t) = [(1, t, 0)] := by unfold nameE; rw [cb.eq_def]; simp [ba]
theorem cb_minus (y : Ex) : cb (minusE y) = (3, [45], 0) :: C y 4 := by unfold minusE; rw [cb.eq_def]; simp
theorem dp_num (n : Nat) : dp (numE n) = 0 := by unfold numE; rw [dp.eq_def]
theorem dp_name (t : List UInt8) : dp (nameE t) = 0 := by unfold nameE; rw [dp.eq_def]
theorem dp_minus (y : Ex) : dp (minusE y) = 1 + D y 4 := by unfold minusE; rw [dp.eq_def]
theorem k12 {k : Nat} (h : 4 ≤ k) : ¬ ((k : Int) = 1) ∧ ¬ ((k : Int) = 2) := ⟨by omega, by omega⟩
theorem tb_bin (k : Nat) (y z : Ex) (h : 4 ≤ k) : tb (binE k y z) = T y (max (rnk k) 2) ++ 32 :: (sgn k ++ 32 :: T z (rnk k + 1)) := by
  unfold binE; rw [tb.eq_def]; simp only [(k12 h).1, (k12 h).2, if_false]
theorem cb_bin (k : Nat) (y z : Ex) (h : 4 ≤ k) : cb (binE k y z) = C y (max (rnk k) 2) ++ (3, sgn k, 0) :: C z (rnk k + 1) := by
  unfold binE; rw [cb.eq_def]; simp only [(k12 h).1, (k12 h).2, if_false]
theorem dp_bin (k : Nat) (y z : Ex) : dp (binE k y z) = max (D y (max (rnk k) 2)) (D z (rnk k + 1)) := by
  unfold binE; rw [dp.eq_def]

theorem seven {P : Nat → Prop} (h4 : P 4) (h5 : P 5) (h6 : P 6) (h7 : P 7) (h8 : P 8) (h9 : P 9) (h10 : P 10) : ∀ k, 4 ≤ k → k ≤ 10 → P k := by
  intro k h1 h2
  match k, h1, h2 with
  | 4, _, _ => exact h4
  | 5, _, _ => exact h5
  | 6, _, _ => exact h6
  | 7, _, _ => exact h7
  | 8, _, _ => exact h8
  | 9, _, _ => exact h9
  | 10, _, _ => exact h10
theorem rnk_bin : ∀ k : Nat, 4 ≤ k → k ≤ 10 → 1 ≤ rnk (k : Int) ∧ rnk (k : Int) ≤ 3 := seven (by decide) (by decide) (by decide) (by decide) (by decide) (by decide) (by decide)
theorem sgn_bin : ∀ k : Nat, 4 ≤ k → k ≤ 10 → sgn (k : Int) ≠ [] := seven (by decide) (by decide) (by decide) (by decide) (by decide) (by decide) (by decide)
theorem op_bin : ∀ k : Nat, 4 ≤ k → k ≤ 10 → ∀ of, 1 ≤ of → of ≤ 3 → opAt of (3, sgn (k : Int), 0) = if rnk (k : Int) = of then some k else none := by
  have three : ∀ k : Nat, opAt 1 (3, sgn (k : Int), 0) = (if rnk (k : Int) = 1 then some k else none) → opAt 2 (3, sgn (k : Int), 0) = (if rnk (k : Int) = 2 then some k else none) → opAt 3 (3, sgn (k : Int), 0) = (if rnk (k : Int) = 3 then some k else none) → ∀ of, 1 ≤ of → of ≤ 3 → opAt of (3, sgn (k : Int), 0) = if rnk (k : Int) = of then some k else none := by
    intro k h1 h2 h3 of ha hb
    match of, ha, hb with
    | 1, _, _ => exact h1
    | 2, _, _ => exact h2
    | 3, _, _ => exact h3
  exact seven (three 4 (by decide) (by decide) (by decide)) (three 5 (by decide) (by decide) (by decide)) (three 6 (by decide) (by decide) (by decide)) (three 7 (by decide) (by decide) (by decide)) (three 8 (by decide) (by decide) (by decide)) (three 9 (by decide) (by decide) (by decide)) (three 10 (by decide) (by decide) (by decide))
theorem opAt_kind {of k : Nat} {t : Core} (h : opAt of t = some k) : 4 ≤ k ∧ k ≤ 10 ∧ rnk (k : Int) = of ∧ t.1 = 3 ∧ t.2.1 = sgn (k : Int) := by
  unfold opAt at h
  split at h
  · rename_i h3
    have h1 := List.find?_some h
    have h2 := List.mem_of_find?_eq_some h
    simp only [Bool.and_eq_true, beq_iff_eq] at h1
    simp only [List.mem_cons, List.not_mem_nil, or_false] at h2
    exact ⟨by omega, by omega, h1.1, h3, h1.2⟩
  · cases h
theorem rnk_pos (k : Int) : 1 ≤ rnk k := by unfold rnk; repeat' split
                                            all_goals decide

/-! ### Written out -/
theorem wb_text {x : Ex} (h : Wf x) : ∀ acc, acc.length + (tb x).length ≤ 6000 → wb x acc = acc ++ tb x := by
  have wrap_ok : ∀ (y : Ex), (∀ acc, acc.length + (tb y).length ≤ 6000 → wb y acc = acc ++ tb y) → ∀ acc l, acc.length + (T y l).length ≤ 6000 → wr y acc l = acc ++ T y l := by
    intro y ih acc l hl
    unfold T tpw at hl ⊢
    unfold wr wrap
    split at hl
    · rename_i hr
      simp only [List.length_cons, List.length_append, List.length_nil] at hl
      rw [if_neg (by omega), if_pos hr, if_pos hr, ih _ (by simp; omega)]
      simp
    · rename_i hr
      rw [if_neg (by omega), if_neg hr, if_neg hr, ih _ hl]
  induction h with
  | num n hn => intro acc _; rw [tb_num]; exact wb_num ..
  | name t ht => intro acc _; rw [tb_name]; unfold nameE; rw [wb_name]; simp [ba]
  | minus y _ ih =>
    intro acc hl
    rw [tb_minus] at hl ⊢
    unfold minusE
    simp only [List.length_cons] at hl
    rw [wb_minus, wrap_ok y ih _ _ (by simp; omega)]
    simp
  | bin k y z h1 h2 _ _ iy iz =>
    intro acc hl
    rw [tb_bin k y z h1] at hl ⊢
    simp only [List.length_append, List.length_cons] at hl
    unfold binE
    rw [wb_two _ _ _ _ _ _ (sgn_bin k h1 h2) (k12 h1).1 (k12 h1).2]
    rw [wrap_ok y iy _ _ (by omega), wrap_ok z iz _ _ (by simp only [List.length_append, List.length_cons, List.length_nil]; omega)]
    simp
theorem wr_text {x : Ex} (h : Wf x) (acc : List UInt8) (l : Nat) (hl : acc.length + (T x l).length ≤ 6000) : wr x acc l = acc ++ T x l := by
  unfold T tpw at hl ⊢
  unfold wr wrap
  split at hl
  · rename_i hr
    simp only [List.length_cons, List.length_append, List.length_nil] at hl
    rw [if_neg (by omega), if_pos hr, if_pos hr, wb_text h _ (by simp; omega)]
    simp
  · rename_i hr
    rw [if_neg (by omega), if_neg hr, if_neg hr, wb_text h _ hl]

/-! ### Numbers -/
theorem val_append (d : List UInt8) (c : UInt8) : Lx.val (d ++ [c]) = Lx.val d * 10 + (c.toNat - 48) := by
  unfold Lx.val; rw [List.foldl_append]; rfl
theorem dec_big {u : Nat} (h : ¬ u < 10) : Lib.decDigits u = Lib.decDigits (u / 10) ++ [UInt8.ofNat (48 + u % 10)] := by
  rw [Lib.decDigits, dif_neg h]
theorem digit_of {r : Nat} (h : r < 10) : (UInt8.ofNat (48 + r)).toNat = 48 + r := by
  simp; omega
theorem digit_ok {r : Nat} (h : r < 10) : Lx.digit (UInt8.ofNat (48 + r)) = true := by
  rw [Lx.digit_iff, digit_of h]; omega
theorem dec_facts (u : Nat) : Lib.decDigits u ≠ [] ∧ (∀ c ∈ Lib.decDigits u, Lx.digit c = true) ∧ Lx.val (Lib.decDigits u) = u ∧ (1 ≤ u → ∃ c r, Lib.decDigits u = c :: r ∧ c ≠ 48) := by
  induction u using Nat.strongRecOn with
  | _ u ih =>
    by_cases h : u < 10
    · rw [Lib.decDigits_one h]
      refine ⟨by simp, ?_, ?_, fun h1 => ⟨_, _, rfl, ?_⟩⟩
      · intro c hc; rw [List.mem_singleton] at hc; subst hc; exact digit_ok h
      · have := val_append [] (UInt8.ofNat (48 + u))
        rw [List.nil_append] at this
        rw [this, digit_of h]
        show 0 * 10 + (48 + u - 48) = u
        omega
      · intro e
        have := congrArg UInt8.toNat e
        rw [digit_of h] at this
        have h48 : (48 : UInt8).toNat = 48 := rfl
        omega
    · rw [dec_big h]
      obtain ⟨h1, h2, h3, h4⟩ := ih (u / 10) (by omega)
      have hm : u % 10 < 10 := Nat.mod_lt _ (by decide)
      refine ⟨by simp, ?_, ?_, fun _ => ?_⟩
      · intro c hc
        rcases List.mem_append.1 hc with hc | hc
        · exact h2 c hc
        · rw [List.mem_singleton] at hc; subst hc; exact digit_ok hm
      · rw [val_append, h3, digit_of hm]; omega
      · obtain ⟨c, r, e, hc⟩ := h4 (by omega)
        exact ⟨c, r ++ [UInt8.ofNat (48 + u % 10)], by rw [e]; rfl, hc⟩
theorem num_dec (n : Nat) (h : n < 9223372036854775808) : Lx.num (Lib.decDigits n) = some n := by
  obtain ⟨h1, h2, h3, h4⟩ := dec_facts n
  unfold Lx.num
  rw [h3, if_neg, if_pos h]
  rintro ⟨hl, hh⟩
  by_cases h0 : 1 ≤ n
  · obtain ⟨c, r, e, hc⟩ := h4 h0
    rw [e] at hh
    simp at hh
    exact hc hh
  · have : n = 0 := by omega
    subst this
    rw [Lib.decDigits_one (by decide)] at hl
    simp at hl
theorem dec_val (d : List UInt8) : d ≠ [] → (∀ c ∈ d, Lx.digit c = true) → (d.length = 1 ∨ d.head? ≠ some 48) → Lib.decDigits (Lx.val d) = d ∧ (d.head? ≠ some 48 → 1 ≤ Lx.val d) := by
  induction hn : d.length using Nat.strongRecOn generalizing d with
  | _ n ih =>
    intro hne hd hh
    have e := List.dropLast_concat_getLast hne
    obtain ⟨d', c, rfl⟩ : ∃ d' c, d = d' ++ [c] := ⟨_, _, e.symm⟩
    have hc := (Lx.digit_iff c).1 (hd c (by simp))
    rw [val_append]
    by_cases h0 : d' = []
    · subst h0
      have hv : Lx.val [] = 0 := rfl
      rw [hv]
      refine ⟨?_, fun hx => ?_⟩
      · rw [Nat.zero_mul, Nat.zero_add, Lib.decDigits_one (by omega)]
        simp only [List.nil_append, List.cons.injEq, and_true]
        apply UInt8.toNat_inj.1
        rw [digit_of (by omega)]; omega
      · simp at hx
        have : c.toNat ≠ 48 := fun e' => hx (UInt8.toNat_inj.1 (by rw [e']; rfl))
        omega
    · have hh' : d'.head? ≠ some 48 := by
        rcases hh with h1 | h1
        · exfalso; simp at hn; have := List.length_pos_iff.2 h0; omega
        · cases d' with
          | nil => exact absurd rfl h0
          | cons a b => exact h1
      obtain ⟨i1, i2⟩ := ih d'.length (by rw [← hn]; simp) d' rfl h0 (fun x hx => hd x (by simp [hx])) (Or.inr hh')
      have hv := i2 hh'
      refine ⟨?_, fun _ => by omega⟩
      have hq : (Lx.val d' * 10 + (c.toNat - 48)) / 10 = Lx.val d' := by omega
      have hm : (Lx.val d' * 10 + (c.toNat - 48)) % 10 = c.toNat - 48 := by omega
      rw [dec_big (by omega), hq, hm, i1]
      congr 2
      apply UInt8.toNat_inj.1
      rw [digit_of (by omega)]; omega
theorem num_back {d : List UInt8} {n : Nat} (hne : d ≠ []) (hd : ∀ c ∈ d, Lx.digit c = true) (h : Lx.num d = some n) : n < 9223372036854775808 ∧ Lib.itoa n = d := by
  unfold Lx.num at h
  split at h
  · cases h
  · rename_i hc
    split at h
    · rename_i hlt
      simp at h
      subst h
      refine ⟨hlt, ?_⟩
      rw [Lib.itoa_nonneg]
      refine (dec_val d hne hd ?_).1
      by_cases h1 : d.length = 1
      · exact Or.inl h1
      · right
        intro hh
        have := List.length_pos_iff.2 hne
        exact hc ⟨by omega, hh⟩
    · cases h

/-! ### Tokens of what is written -/
/-- No word and no number goes on with it. -/
def Stop (r : List UInt8) : Prop := ∀ c t, r = c :: t → Lx.goes c = false
theorem stop_cons {c : UInt8} (h : Lx.goes c = false) (r : List UInt8) : Stop (c :: r) := by intro d t e; cases e; exact h
theorem stop_nil : Stop [] := by intro d t e; cases e
theorem goes_digit {c : UInt8} (h : Lx.goes c = false) : Lx.digit c = false := by unfold Lx.goes at h; simp only [Bool.or_eq_false_iff] at h; exact h.2
theorem tw_stop (p : UInt8 → Bool) (l r : List UInt8) (hl : ∀ c ∈ l, p c = true) (hr : ∀ c t, r = c :: t → p c = false) : (l ++ r).takeWhile p = l := by
  induction l with
  | nil =>
    cases r with
    | nil => rfl
    | cons c t => simp [hr c t rfl]
  | cons a l ih => rw [List.cons_append, List.takeWhile_cons, if_pos (hl a (by simp)), ih fun c hc => hl c (by simp [hc])]
theorem cr_sign (c : UInt8) (hl : Lx.lower c = false) (hd : Lx.digit c = false) (hb : Lx.blank c = false) (h35 : c ≠ 35) (h61 : c ≠ 61) (hs : Lx.signs.contains c = true) (r : List UInt8) : Lx.cr (c :: r) = (Lx.cr r).map fun ts => (3, [c], 0) :: ts := by
  have ho : Lx.one (c :: r) = some (3, 1, 0) := by
    rw [Lx.one_cons, if_neg (by rw [hl]; decide), if_neg (by rw [hd]; decide), if_neg (by intro e; exact h61 e.1), if_pos hs]
  rw [Lx.cr_one c r hb h35 ho]; rfl
theorem cr_eq (r : List UInt8) : Lx.cr (61 :: 61 :: r) = (Lx.cr r).map fun ts => (3, [61, 61], 0) :: ts := by
  have ho : Lx.one (61 :: 61 :: r) = some (3, 2, 0) := by
    rw [Lx.one_cons, if_neg (by decide), if_neg (by decide), if_pos ⟨rfl, rfl⟩]
  rw [Lx.cr_one 61 (61 :: r) (by decide) (by decide) ho]; rfl
theorem cr_sgn : ∀ k : Nat, 4 ≤ k → k ≤ 10 → ∀ r, Lx.cr (sgn (k : Int) ++ r) = (Lx.cr r).map fun ts => (3, sgn (k : Int), 0) :: ts := by
  refine seven ?_ ?_ ?_ ?_ ?_ ?_ ?_
  · exact cr_sign 43 (by decide) (by decide) (by decide) (by decide) (by decide) (by decide)
  · exact cr_sign 45 (by decide) (by decide) (by decide) (by decide) (by decide) (by decide)
  · exact cr_sign 42 (by decide) (by decide) (by decide) (by decide) (by decide) (by decide)
  · exact cr_sign 47 (by decide) (by decide) (by decide) (by decide) (by decide) (by decide)
  · exact cr_sign 37 (by decide) (by decide) (by decide) (by decide) (by decide) (by decide)
  · exact cr_sign 60 (by decide) (by decide) (by decide) (by decide) (by decide) (by decide)
  · exact cr_eq
theorem cr_open (r : List UInt8) : Lx.cr (40 :: r) = (Lx.cr r).map fun ts => (3, [40], 0) :: ts := cr_sign 40 (by decide) (by decide) (by decide) (by decide) (by decide) (by decide) r
theorem cr_shut (r : List UInt8) : Lx.cr (41 :: r) = (Lx.cr r).map fun ts => (3, [41], 0) :: ts := cr_sign 41 (by decide) (by decide) (by decide) (by decide) (by decide) (by decide) r
theorem cr_min (r : List UInt8) : Lx.cr (45 :: r) = (Lx.cr r).map fun ts => (3, [45], 0) :: ts := cr_sign 45 (by decide) (by decide) (by decide) (by decide) (by decide) (by decide) r
theorem digit_not {c : UInt8} (h : Lx.digit c = true) : Lx.lower c = false ∧ Lx.blank c = false ∧ c ≠ 35 := by
  have hc := (Lx.digit_iff c).1 h
  have h2 : ∀ d : UInt8, d.toNat < 48 → c ≠ d := by intro d hd e; subst e; omega
  have a1 := h2 32 (by decide)
  have a2 := h2 9 (by decide)
  have a3 := h2 10 (by decide)
  refine ⟨?_, by simp [Lx.blank, a1, a2, a3], h2 35 (by decide)⟩
  unfold Lx.lower
  rw [decide_eq_false (by omega)]; rfl
theorem cr_num (n : Nat) (hn : n < 9223372036854775808) (r : List UInt8) (hr : Stop r) : Lx.cr (Lib.itoa n ++ r) = (Lx.cr r).map fun ts => (2, Lib.itoa n, n) :: ts := by
  rw [Lib.itoa_nonneg]
  obtain ⟨h1, h2, -, -⟩ := dec_facts n
  have hnum := num_dec n hn
  cases e : Lib.decDigits n with
  | nil => exact absurd e h1
  | cons c d =>
    rw [e] at h2 hnum
    have hc := h2 c (by simp)
    obtain ⟨q1, q2, q3⟩ := digit_not hc
    have htw : (d ++ r).takeWhile Lx.digit = d := tw_stop _ _ _ (fun x hx => h2 x (by simp [hx])) fun x t ex => goes_digit (hr x t ex)
    have ho : Lx.one (c :: (d ++ r)) = some (2, 1 + d.length, n) := by
      rw [Lx.one_cons, if_neg (by rw [q1]; decide), if_pos hc, htw, hnum]; rfl
    rw [List.cons_append, Lx.cr_one c (d ++ r) q2 q3 ho]
    have e1 : (c :: (d ++ r)).drop (1 + d.length) = r := by rw [Nat.add_comm, List.drop_succ_cons, List.drop_left]
    have e2 : (c :: (d ++ r)).take (1 + d.length) = c :: d := by rw [Nat.add_comm, List.take_succ_cons, List.take_left]
    rw [e1, e2]
theorem cr_name (t : List UInt8) (ht : isNm t = true) (r : List UInt8) (hr : Stop r) : Lx.cr (t ++ r) = (Lx.cr r).map fun ts => (1, t, 0) :: ts := by
  unfold isNm at ht
  simp only [Bool.and_eq_true] at ht
  have hw := ht.1
  cases t with
  | nil => cases hw
  | cons c d =>
    simp only [Lx.isWord, Bool.and_eq_true, decide_eq_true_eq] at hw
    obtain ⟨⟨h1, h2⟩, h3⟩ := hw
    obtain ⟨q2, q3⟩ := Lx.lower_not c h1
    rw [List.all_eq_true] at h2
    have htw : (d ++ r).takeWhile Lx.goes = d := tw_stop _ _ _ h2 hr
    have ho : Lx.one (c :: (d ++ r)) = some (1, 1 + d.length, 0) := by
      rw [Lx.one_cons, if_pos h1, htw, if_pos (by omega)]
    rw [List.cons_append, Lx.cr_one c (d ++ r) q2 q3 ho]
    have e1 : (c :: (d ++ r)).drop (1 + d.length) = r := by rw [Nat.add_comm, List.drop_succ_cons, List.drop_left]
    have e2 : (c :: (d ++ r)).take (1 + d.length) = c :: d := by rw [Nat.add_comm, List.take_succ_cons, List.take_left]
    rw [e1, e2]
theorem map_map_cons (o : Option (List Core)) (a b : List Core) : (o.map fun ts => b ++ ts).map (fun ts => a ++ ts) = o.map fun ts => (a ++ b) ++ ts := by
  cases o <;> simp
theorem cr_tb {x : Ex} (h : Wf x) : ∀ r, Stop r → Lx.cr (tb x ++ r) = (Lx.cr r).map fun ts => cb x ++ ts := by
  have wrapped : ∀ y : Ex, (∀ r, Stop r → Lx.cr (tb y ++ r) = (Lx.cr r).map fun ts => cb y ++ ts) → ∀ l r, Stop r → Lx.cr (T y l ++ r) = (Lx.cr r).map fun ts => C y l ++ ts := by
    intro y ih l r hr
    unfold T C tpw cpw
    split
    · rw [List.cons_append, List.append_assoc, cr_open, show ([41] ++ r : List UInt8) = 41 :: r from rfl, ih (41 :: r) (stop_cons (by decide) _), cr_shut]
      cases Lx.cr r <;> simp
    · exact ih r hr
  induction h with
  | num n hn => intro r hr; rw [tb_num, cb_num]; exact cr_num n hn r hr
  | name t ht => intro r hr; rw [tb_name, cb_name]; exact cr_name t ht r hr
  | minus y _ ih =>
    intro r hr
    rw [tb_minus, cb_minus, List.cons_append, cr_min, wrapped y ih 4 r hr]
    cases Lx.cr r <;> simp
  | bin k y z h1 h2 _ _ iy iz =>
    intro r hr
    rw [tb_bin k y z h1, cb_bin k y z h1, List.append_assoc, List.cons_append, wrapped y iy _ _ (stop_cons (by decide) _), Lx.cr_blank 32 _ (by decide), List.append_assoc, List.cons_append, cr_sgn k h1 h2, Lx.cr_blank 32 _ (by decide), wrapped z iz _ r hr]
    cases Lx.cr r <;> simp
theorem cr_T {x : Ex} (h : Wf x) (l : Nat) (r : List UInt8) (hr : Stop r) : Lx.cr (T x l ++ r) = (Lx.cr r).map fun ts => C x l ++ ts := by
  unfold T C tpw cpw
  split
  · rw [List.cons_append, List.append_assoc, cr_open, show ([41] ++ r : List UInt8) = 41 :: r from rfl, cr_tb h (41 :: r) (stop_cons (by decide) _), cr_shut]
    cases Lx.cr r <;> simp
  · exact cr_tb h r hr
end Px
#print axioms Px.cr_T
end Go.Proofs.YtbjdnniklcmcbaaDoor
