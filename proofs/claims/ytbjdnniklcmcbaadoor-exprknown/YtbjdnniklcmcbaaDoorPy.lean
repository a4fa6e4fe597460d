/- What is written is read the same; what was read has a text that is no longer. No program, no condition. -/
import Derived.Test.YtbjdnniklcmcbaaDoorPv
namespace Go.Proofs.YtbjdnniklcmcbaaDoor
namespace Px
open Lx (Core)

/-! ### What is written is read -/
def Ok (l : Nat) (r : List Core) : Prop := ∀ of, l ≤ of → of ≤ 3 → opAt of (hd r) = none
theorem Ok.up {l l' : Nat} {r : List Core} (h : Ok l r) (hl : l ≤ l') : Ok l' r := fun of h1 h2 => h of (Nat.le_trans hl h1) h2
def Reads (part : P) (l d : Nat) : Prop := ∀ x, Wf x → D x l ≤ d → ∀ r, Ok l r → part (C x l ++ r) = (some x, r)

theorem more_fuel {of : Nat} {part : P} (h : Ctx part) : ∀ f g e l, l.length ≤ f → l.length ≤ g → more of part f e l = more of part g e l := by
  intro f
  induction f with
  | zero =>
    intro g e l hf hg
    have : l = [] := List.eq_nil_of_length_eq_zero (by omega)
    subst this
    have hn : opAt of (hd []) = none := by unfold opAt hd; rfl
    rw [more_none hn, more_none hn]
  | succ f ih =>
    intro g e l hf hg
    cases hk : opAt of (hd l) with
    | none => rw [more_none hk, more_none hk]
    | some k =>
      have hl : l = hd l :: l.tail := hd_tail (by rw [opAt_hd hk]; decide)
      have hll : l.length = l.tail.length + 1 := by conv => lhs; rw [hl]
                                                    simp
      cases g with
      | zero => omega
      | succ g =>
        rw [more, more, hk]
        simp only []
        cases hp : part l.tail with
        | mk o m =>
          cases o with
          | none => rfl
          | some r =>
            obtain ⟨p, e1, n1, -⟩ := h _ _ _ hp
            have := List.length_pos_iff.2 n1
            have h2 : l.tail.length = p.length + m.length := by rw [e1, List.length_append]
            exact ih g _ m (by omega) (by omega)

/-- A row that is written is read on to its end. -/
theorem row_go {of d : Nat} {part : P} (hof : of = 2 ∨ of = 3) (hc : Ctx part) (h : Reads part (of + 1) d) {x : Ex} (hx : Wf x) : D x of ≤ d → ∀ r, Ok (of + 1) r → row of part (C x of ++ r) = more of part r.length x r := by
  have base : ∀ y, Wf y → rnk y.kind ≠ of → D y of ≤ d → ∀ r, Ok (of + 1) r → row of part (C y of ++ r) = more of part r.length y r := by
    intro y hy hr hD r ho
    have e1 : C y of = C y (of + 1) := by unfold C cpw; by_cases c : rnk y.kind < of
                                          · rw [if_pos c, if_pos (by omega)]
                                          · rw [if_neg c, if_neg (by omega)]
    have e2 : D y of = D y (of + 1) := by unfold D dpw; by_cases c : rnk y.kind < of
                                          · rw [if_pos c, if_pos (by omega)]
                                          · rw [if_neg c, if_neg (by omega)]
    rw [e1]
    unfold row
    rw [h y hy (by rw [← e2]; exact hD) r ho]
  induction hx with
  | num n hn => exact base _ (.num n hn) (by show (4 : Nat) ≠ of; omega)
  | name t ht => exact base _ (.name t ht) (by show (4 : Nat) ≠ of; omega)
  | minus y hy _ => exact base _ (.minus y hy) (by show (4 : Nat) ≠ of; omega)
  | bin k y z h1 h2 hy hz iy _ =>
    by_cases hr : rnk (k : Int) = of
    · intro hD r ho
      have hk : (binE k y z).kind = (k : Int) := rfl
      have e1 : C (binE k y z) of = C y of ++ (3, sgn k, 0) :: C z (of + 1) := by
        unfold C cpw; rw [hk, if_neg (by omega), cb_bin k y z h1, hr]
        rw [show max of 2 = of by omega]; rfl
      have e2 : D (binE k y z) of = max (D y of) (D z (of + 1)) := by
        unfold D dpw; rw [hk, if_neg (by omega), dp_bin, hr]
        rw [show max of 2 = of by omega]; rfl
      rw [e2] at hD
      have hop := op_bin k h1 h2
      rw [e1, List.append_assoc, List.cons_append]
      rw [iy (by omega) _ (by
        intro o ha hb
        show opAt o (3, sgn k, 0) = none
        rw [hop o (by omega) hb, if_neg (by omega)])]
      rw [List.length_cons, more]
      have hop2 : opAt of (hd ((3, sgn k, 0) :: (C z (of + 1) ++ r))) = some k := by
        show opAt of (3, sgn k, 0) = some k
        rw [hop of (by omega) (by omega), if_pos hr]
      rw [hop2]
      simp only [List.tail_cons]
      rw [h z hz (by omega) r ho]
      simp only []
      exact more_fuel hc _ _ _ _ (by simp) (Nat.le_refl _)
    · exact base _ (.bin k y z h1 h2 hy hz) hr
theorem row_reads {of d : Nat} {part : P} (hof : of = 2 ∨ of = 3) (hc : Ctx part) (h : Reads part (of + 1) d) : Reads (row of part) of d := by
  intro x hx hD r ho
  rw [row_go hof hc h hx hD r (ho.up (by omega)), more_none (ho of (Nat.le_refl _) (by omega))]
theorem expr_reads {d : Nat} {f : P} (hc : Ctx f) (h : Reads f 4 d) : Reads (expr f) 1 d := by
  have hs : Reads (sum f) 2 d := row_reads (Or.inl rfl) (row_ctx hc) (row_reads (Or.inr rfl) hc h)
  have base : ∀ y, Wf y → rnk y.kind ≠ 1 → D y 1 ≤ d → ∀ r, Ok 1 r → expr f (C y 1 ++ r) = (some y, r) := by
    intro y hy hr hD r ho
    have hp := rnk_pos y.kind
    have e1 : C y 1 = C y 2 := by unfold C cpw; rw [if_neg (by omega), if_neg (by omega)]
    have e2 : D y 1 = D y 2 := by unfold D dpw; rw [if_neg (by omega), if_neg (by omega)]
    rw [e1]
    unfold expr
    rw [hs y hy (by rw [← e2]; exact hD) r (ho.up (by omega))]
    simp only [ho 1 (Nat.le_refl _) (by omega)]
  intro x hx
  cases hx with
  | num n hn => exact base _ (.num n hn) (by show (4 : Nat) ≠ 1; omega)
  | name t ht => exact base _ (.name t ht) (by show (4 : Nat) ≠ 1; omega)
  | minus y hy => exact base _ (.minus y hy) (by show (4 : Nat) ≠ 1; omega)
  | bin k y z h1 h2 hy hz =>
    by_cases hr : rnk (k : Int) = 1
    · intro hD r ho
      have hk : (binE k y z).kind = (k : Int) := rfl
      have e1 : C (binE k y z) 1 = C y 2 ++ (3, sgn k, 0) :: C z 2 := by
        unfold C cpw; rw [hk, if_neg (by omega), cb_bin k y z h1, hr]; rfl
      have e2 : D (binE k y z) 1 = max (D y 2) (D z 2) := by
        unfold D dpw; rw [hk, if_neg (by omega), dp_bin, hr]; rfl
      rw [e2] at hD
      have hop := op_bin k h1 h2
      rw [e1, List.append_assoc, List.cons_append]
      unfold expr
      rw [hs y hy (by omega) _ (by
        intro o ha hb
        show opAt o (3, sgn k, 0) = none
        rw [hop o (by omega) hb, if_neg (by omega)])]
      have hop2 : opAt 1 (Px.hd ((3, sgn k, 0) :: (C z 2 ++ r))) = some k := by
        show opAt 1 (3, sgn k, 0) = some k
        rw [hop 1 (by omega) (by omega), if_pos hr]
      simp only [hop2, List.tail_cons]
      rw [hs z hz (by omega) r (ho.up (by omega))]
    · exact base _ (.bin k y z h1 h2 hy hz) hr
theorem ok_shut (r : List Core) : Ok 1 ((3, [41], 0) :: r) := by
  intro of h1 h2
  show opAt of (3, [41], 0) = none
  match of, h1, h2 with
  | 1, _, _ => decide
  | 2, _, _ => decide
  | 3, _, _ => decide
theorem fac_reads : ∀ d, Reads (fac d) 4 d := by
  intro d
  induction d with
  | zero =>
    intro x hx hD r _
    cases hx with
    | num n hn => show fac 0 (cpw 1 (cb (numE n)) 4 ++ r) = _; rw [cb_num]; rfl
    | name t ht =>
      have : C (nameE t) 4 = [(1, t, 0)] := by unfold C cpw; rw [cb_name]; rfl
      rw [this, fac_zero, if_neg (by show ¬ (1 = 2); decide), if_pos ⟨rfl, ht⟩]; rfl
    | minus y hy =>
      have : D (minusE y) 4 = 1 + D y 4 := by unfold D dpw; rw [dp_minus]; rfl
      omega
    | bin k y z h1 h2 hy hz =>
      have := rnk_bin k h1 h2
      have e : D (binE k y z) 4 = 1 + dp (binE k y z) := by unfold D dpw; rw [if_pos (by show rnk (k : Int) < 4; omega)]
      omega
  | succ d ih =>
    intro x hx hD r _
    have hx' := hx
    cases hx with
    | num n hn => show fac (d + 1) (cpw 1 (cb (numE n)) 4 ++ r) = _; rw [cb_num, fac_succ]; rfl
    | name t ht =>
      have : C (nameE t) 4 = [(1, t, 0)] := by unfold C cpw; rw [cb_name]; rfl
      rw [this, fac_succ, if_neg (by show ¬ (1 = 2); decide), if_pos ⟨rfl, ht⟩]; rfl
    | minus y hy =>
      have e2 : D (minusE y) 4 = 1 + D y 4 := by unfold D dpw; rw [dp_minus]; rfl
      have e1 : C (minusE y) 4 = (3, [45], 0) :: C y 4 := by unfold C cpw; rw [cb_minus]; rfl
      rw [e1, fac_succ, List.cons_append, if_neg (by show ¬ (3 = 2); decide), if_neg (by intro c; exact absurd c.1 (by show ¬ (3 = 1); decide)), if_pos (by show isSg [45] (3, [45], 0) = true; decide)]
      unfold minus
      rw [List.tail_cons, ih y hy (by omega) r (fun of h1 h2 => by omega)]
    | bin k y z h1 h2 hy hz =>
      have hr := rnk_bin k h1 h2
      have e2 : D (binE k y z) 4 = 1 + dp (binE k y z) := by unfold D dpw; rw [if_pos (by show rnk (k : Int) < 4; omega)]
      have e1 : C (binE k y z) 4 = (3, [40], 0) :: (cb (binE k y z) ++ [(3, [41], 0)]) := by unfold C cpw; rw [if_pos (by show rnk (k : Int) < 4; omega)]
      have e3 : C (binE k y z) 1 = cb (binE k y z) := by unfold C cpw; rw [if_neg (by show ¬ rnk (k : Int) < 1; omega)]
      have e4 : D (binE k y z) 1 = dp (binE k y z) := by unfold D dpw; rw [if_neg (by show ¬ rnk (k : Int) < 1; omega)]
      rw [e1, fac_succ, List.cons_append, if_neg (by show ¬ (3 = 2); decide), if_neg (by intro c; exact absurd c.1 (by show ¬ (3 = 1); decide)), if_neg (by show ¬ (isSg [45] (3, [40], 0) = true); decide), if_pos (by show isSg [40] (3, [40], 0) = true; decide)]
      unfold paren
      rw [List.tail_cons, List.append_assoc, ← e3, show ([(3, [41], 0)] ++ r : List Core) = (3, [41], 0) :: r from rfl]
      rw [expr_reads (fac_ctx d) ih _ hx' (by omega) _ (ok_shut r)]
      simp only []
      rw [if_pos (by show isSg [41] (3, [41], 0) = true; decide)]
      rfl

/-! ### What was read can be written -/
def TokOk (t : Core) : Prop := t.1 = 2 → t.2.2 < 9223372036854775808 ∧ Lib.itoa t.2.2 = t.2.1
def cost (l : List Core) : Nat := (l.map fun t => t.2.1.length + 1).sum
theorem cost_cons (t : Core) (l : List Core) : cost (t :: l) = t.2.1.length + 1 + cost l := by simp [cost]
def Yields (part : P) (l d : Nat) : Prop := ∀ u x m, (∀ t ∈ u, TokOk t) → part u = (some x, m) → Wf x ∧ D x l ≤ d ∧ (T x l).length + 1 + cost m ≤ cost u ∧ x.size + m.length ≤ u.length ∧ (∀ t ∈ m, TokOk t)
theorem size_bin (k : Nat) (y z : Ex) : (binE k y z).size = 1 + (y.size + z.size) := by unfold binE; rw [Ex.size_eq]; simp [Ex.of, Ex.sizes]
theorem size_minus (y : Ex) : (minusE y).size = 1 + y.size := by unfold minusE; rw [Ex.size_eq]; simp [Ex.of, Ex.sizes]
theorem tail_ok {u : List Core} (h : ∀ t ∈ u, TokOk t) : ∀ t ∈ u.tail, TokOk t := fun t ht => h t (List.mem_of_mem_tail ht)

theorem more_yields {of d : Nat} {part : P} (hof : of = 2 ∨ of = 3) (h : Yields part (of + 1) d) : ∀ f e u x m, (∀ t ∈ u, TokOk t) → Wf e → D e of ≤ d → more of part f e u = (some x, m) →
    Wf x ∧ D x of ≤ d ∧ (T x of).length + cost m ≤ (T e of).length + cost u ∧ x.size + m.length ≤ e.size + u.length ∧ (∀ t ∈ m, TokOk t) := by
  intro f
  induction f with
  | zero =>
    intro e u x m hu he hD hm
    rw [more] at hm
    simp at hm
    obtain ⟨rfl, rfl⟩ := hm
    exact ⟨he, hD, by omega, by omega, hu⟩
  | succ f ih =>
    intro e u x m hu he hD hm
    rw [more] at hm
    cases hk : opAt of (hd u) with
    | none =>
      rw [hk] at hm
      simp at hm
      obtain ⟨rfl, rfl⟩ := hm
      exact ⟨he, hD, by omega, by omega, hu⟩
    | some k =>
      rw [hk] at hm
      obtain ⟨k4, k10, hr, h3, hs⟩ := opAt_kind hk
      have hl : u = hd u :: u.tail := hd_tail (by rw [h3]; decide)
      simp only [] at hm
      cases hp : part u.tail with
      | mk o m1 =>
        rw [hp] at hm
        cases o with
        | none => simp at hm
        | some r =>
          simp only [] at hm
          obtain ⟨w1, d1, c1, s1, o1⟩ := h _ _ _ (tail_ok hu) hp
          have e2 : D (binE k e r) of = max (D e of) (D r (of + 1)) := by
            unfold D dpw; rw [show (binE k e r).kind = (k : Int) from rfl, if_neg (by omega), dp_bin, hr, show max of 2 = of by omega]; rfl
          have e1 : T (binE k e r) of = T e of ++ 32 :: (sgn k ++ 32 :: T r (of + 1)) := by
            unfold T tpw; rw [show (binE k e r).kind = (k : Int) from rfl, if_neg (by omega), tb_bin k e r k4, hr, show max of 2 = of by omega]; rfl
          obtain ⟨w2, d2, c2, s2, o2⟩ := ih _ _ _ _ o1 (.bin k e r k4 k10 he w1) (by rw [e2]; omega) hm
          have hc : cost u = (sgn (k : Int)).length + 1 + cost u.tail := by
            conv => lhs; rw [hl]
            rw [cost_cons, hs]
          have hll : u.length = u.tail.length + 1 := by conv => lhs; rw [hl]
                                                        simp
          have e3 : (T (binE k e r) of).length = (T e of).length + 1 + (sgn (k : Int)).length + 1 + (T r (of + 1)).length := by rw [e1]; simp only [List.length_append, List.length_cons]; omega
          have hz := size_bin k e r
          exact ⟨w2, d2, by omega, by omega, o2⟩
theorem T_low (x : Ex) {l l' : Nat} (h : l ≤ l') : (T x l).length ≤ (T x l').length ∧ (T x l').length ≤ (T x l).length + 2 ∧ D x l ≤ D x l' ∧ D x l' ≤ D x l + 1 := by
  unfold T D tpw dpw
  by_cases c1 : rnk x.kind < l
  · rw [if_pos c1, if_pos (by omega), if_pos c1, if_pos (by omega)]; omega
  · by_cases c2 : rnk x.kind < l'
    · rw [if_neg c1, if_pos c2, if_neg c1, if_pos c2]; simp only [List.length_cons, List.length_append, List.length_nil]; omega
    · rw [if_neg c1, if_neg c2, if_neg c1, if_neg c2]; omega
theorem row_yields {of d : Nat} {part : P} (hof : of = 2 ∨ of = 3) (h : Yields part (of + 1) d) : Yields (row of part) of d := by
  intro u x m hu he
  unfold row at he
  cases hp : part u with
  | mk o m1 =>
    rw [hp] at he
    cases o with
    | none => simp at he
    | some e =>
      simp only [] at he
      obtain ⟨w1, d1, c1, s1, o1⟩ := h _ _ _ hu hp
      have hlow := T_low e (Nat.le_succ of)
      obtain ⟨w2, d2, c2, s2, o2⟩ := more_yields hof h _ _ _ _ _ o1 w1 (by have := hlow.2.2.1; simp only [Nat.succ_eq_add_one] at this; omega) he
      have := hlow.1
      simp only [Nat.succ_eq_add_one] at this
      exact ⟨w2, d2, by omega, by omega, o2⟩
theorem expr_yields {d : Nat} {f : P} (h : Yields f 4 d) : Yields (expr f) 1 d := by
  have hs : Yields (sum f) 2 d := row_yields (Or.inl rfl) (row_yields (Or.inr rfl) h)
  intro u x m hu he
  unfold expr at he
  cases hp : sum f u with
  | mk o m1 =>
    rw [hp] at he
    cases o with
    | none => simp at he
    | some e =>
      simp only [] at he
      obtain ⟨w1, d1, c1, s1, o1⟩ := hs _ _ _ hu hp
      cases hk : opAt 1 (hd m1) with
      | none =>
        rw [hk] at he
        simp at he
        obtain ⟨rfl, rfl⟩ := he
        have hlow := T_low e (by decide : 1 ≤ 2)
        exact ⟨w1, by omega, by omega, s1, o1⟩
      | some k =>
        rw [hk] at he
        obtain ⟨k4, k10, hr, h3, hs'⟩ := opAt_kind hk
        have hl : m1 = hd m1 :: m1.tail := hd_tail (by rw [h3]; decide)
        simp only [] at he
        cases hq : sum f m1.tail with
        | mk o m2 =>
          rw [hq] at he
          cases o with
          | none => simp at he
          | some r =>
            simp at he
            obtain ⟨rfl, rfl⟩ := he
            obtain ⟨w2, d2, c2, s2, o2⟩ := hs _ _ _ (tail_ok o1) hq
            have e2 : D (binE k e r) 1 = max (D e 2) (D r 2) := by
              unfold D dpw; rw [show (binE k e r).kind = (k : Int) from rfl, if_neg (by omega), dp_bin, hr]; rfl
            have e1 : T (binE k e r) 1 = T e 2 ++ 32 :: (sgn k ++ 32 :: T r 2) := by
              unfold T tpw; rw [show (binE k e r).kind = (k : Int) from rfl, if_neg (by omega), tb_bin k e r k4, hr]; rfl
            have hc : cost m1 = (sgn (k : Int)).length + 1 + cost m1.tail := by
              conv => lhs; rw [hl]
              rw [cost_cons, hs']
            have hll : m1.length = m1.tail.length + 1 := by conv => lhs; rw [hl]
                                                            simp
            have e3 : (T (binE k e r) 1).length = (T e 2).length + 1 + (sgn (k : Int)).length + 1 + (T r 2).length := by rw [e1]; simp only [List.length_append, List.length_cons]; omega
            have hz := size_bin k e r
            exact ⟨.bin k e r k4 k10 w1 w2, by rw [e2]; omega, by omega, by omega, o2⟩
theorem fac_yields : ∀ d, Yields (fac d) 4 d := by
  have leaf : ∀ d u x m, (∀ t ∈ u, TokOk t) → ((hd u).1 = 2 ∧ x = numE (hd u).2.2 ∧ m = u.tail) ∨ (((hd u).1 = 1 ∧ isNm (hd u).2.1 = true) ∧ x = nameE (hd u).2.1 ∧ m = u.tail) → Wf x ∧ D x 4 ≤ d ∧ (T x 4).length + 1 + cost m ≤ cost u ∧ x.size + m.length ≤ u.length ∧ (∀ t ∈ m, TokOk t) := by
    intro d u x m hu h
    rcases h with ⟨h2, rfl, rfl⟩ | ⟨⟨h1, hn⟩, rfl, rfl⟩
    · have hl : u = hd u :: u.tail := hd_tail (by rw [h2]; decide)
      have hok := hu (hd u) (by rw [hl]; exact List.mem_cons_self ..) h2
      have hll : u.length = u.tail.length + 1 := by conv => lhs; rw [hl]
                                                    simp
      have hc : cost u = (hd u).2.1.length + 1 + cost u.tail := by conv => lhs; rw [hl, cost_cons]
      have e1 : T (numE (hd u).2.2) 4 = Lib.itoa ((hd u).2.2 : Nat) := by unfold T tpw; rw [tb_num]; rfl
      have e2 : D (numE (hd u).2.2) 4 = 0 := by unfold D dpw; rw [dp_num]; rfl
      have e3 : (numE (hd u).2.2).size = 1 := by unfold numE; rw [Ex.size_eq]; simp [Ex.of, Ex.sizes]
      exact ⟨.num _ hok.1, by omega, by rw [e1, hok.2]; omega, by omega, tail_ok hu⟩
    · have hl : u = hd u :: u.tail := hd_tail (by rw [h1]; decide)
      have hll : u.length = u.tail.length + 1 := by conv => lhs; rw [hl]
                                                    simp
      have hc : cost u = (hd u).2.1.length + 1 + cost u.tail := by conv => lhs; rw [hl, cost_cons]
      have e1 : T (nameE (hd u).2.1) 4 = (hd u).2.1 := by unfold T tpw; rw [tb_name]; rfl
      have e2 : D (nameE (hd u).2.1) 4 = 0 := by unfold D dpw; rw [dp_name]; rfl
      have e3 : (nameE (hd u).2.1).size = 1 := by unfold nameE; rw [Ex.size_eq]; simp [Ex.of, Ex.sizes]
      exact ⟨.name _ hn, by omega, by rw [e1]; omega, by omega, tail_ok hu⟩
  intro d
  induction d with
  | zero =>
    intro u x m hu he
    rw [fac_zero] at he
    split at he
    · rename_i h2; simp at he; exact leaf 0 u x m hu (Or.inl ⟨h2, he.1.symm, he.2.symm⟩)
    · split at he
      · rename_i h1; simp at he; exact leaf 0 u x m hu (Or.inr ⟨h1, he.1.symm, he.2.symm⟩)
      · simp at he
  | succ d ih =>
    intro u x m hu he
    rw [fac_succ] at he
    split at he
    · rename_i h2; simp at he; exact leaf (d + 1) u x m hu (Or.inl ⟨h2, he.1.symm, he.2.symm⟩)
    · split at he
      · rename_i h1; simp at he; exact leaf (d + 1) u x m hu (Or.inr ⟨h1, he.1.symm, he.2.symm⟩)
      · split at he
        · rename_i h3
          have h33 := isSg_hd h3
          have hl : u = hd u :: u.tail := hd_tail (by rw [h33]; decide)
          have hll : u.length = u.tail.length + 1 := by conv => lhs; rw [hl]
                                                        simp
          have hc : cost u = (hd u).2.1.length + 1 + cost u.tail := by conv => lhs; rw [hl, cost_cons]
          have ht : (hd u).2.1.length = 1 := by simp [isSg] at h3; rw [h3.2]; rfl
          unfold minus at he
          cases hp : fac d u.tail with
          | mk o m1 =>
            rw [hp] at he
            cases o with
            | none => simp at he
            | some e =>
              simp at he
              obtain ⟨rfl, rfl⟩ := he
              obtain ⟨w1, d1, c1, s1, o1⟩ := ih _ _ _ (tail_ok hu) hp
              have e1 : T (minusE e) 4 = 45 :: T e 4 := by unfold T tpw; rw [tb_minus]; rfl
              have e2 : D (minusE e) 4 = 1 + D e 4 := by unfold D dpw; rw [dp_minus]; rfl
              have e3 := size_minus e
              have e4 : (T (minusE e) 4).length = 1 + (T e 4).length := by rw [e1, List.length_cons]; omega
              exact ⟨.minus e w1, by omega, by omega, by omega, o1⟩
        · split at he
          · rename_i h5
            have h55 := isSg_hd h5
            have hl : u = hd u :: u.tail := hd_tail (by rw [h55]; decide)
            have hll : u.length = u.tail.length + 1 := by conv => lhs; rw [hl]
                                                          simp
            have hc : cost u = (hd u).2.1.length + 1 + cost u.tail := by conv => lhs; rw [hl, cost_cons]
            have ht : (hd u).2.1.length = 1 := by simp [isSg] at h5; rw [h5.2]; rfl
            unfold paren at he
            cases hp : expr (fac d) u.tail with
            | mk o m1 =>
              rw [hp] at he
              cases o with
              | none => simp at he
              | some e =>
                simp only [] at he
                split at he
                · rename_i hcl
                  simp at he
                  obtain ⟨rfl, rfl⟩ := he
                  obtain ⟨w1, d1, c1, s1, o1⟩ := expr_yields ih _ _ _ (tail_ok hu) hp
                  have hl1 : m1 = hd m1 :: m1.tail := hd_tail (by rw [isSg_hd hcl]; decide)
                  have hll1 : m1.length = m1.tail.length + 1 := by conv => lhs; rw [hl1]
                                                                   simp
                  have hc1 : cost m1 = (hd m1).2.1.length + 1 + cost m1.tail := by conv => lhs; rw [hl1, cost_cons]
                  have ht1 : (hd m1).2.1.length = 1 := by simp [isSg] at hcl; rw [hcl.2]; rfl
                  have hlow := T_low e (by decide : 1 ≤ 4)
                  exact ⟨w1, by omega, by omega, by omega, tail_ok o1⟩
                · simp at he
          · simp at he
end Px
#print axioms Px.fac_yields
end Go.Proofs.YtbjdnniklcmcbaaDoor
