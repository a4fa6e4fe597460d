/- Ba -/
import Derived.Test.YtnfkjmafhaecgaaZRt9

namespace Go.Proofs.Ytnfkjmafhaecgaa
open Go.RowKit
namespace Bn
def cap (n : Nat) : Nat := if n ≤ 2147483647 then n else 2147483647
def own (k : Int) : Nat := if 1 ≤ k ∧ k ≤ 10 then 1 else 0
mutual
def en : Ex → Nat
  | .mk k _ _ l => own k + ens l
def ens : List Ex → Nat
  | [] => 0
  | a :: l => en a + ens l
end
mutual
def sn : St → Nat
  | .mk k _ _ n e b c _ _ =>
    if k = 1 ∨ k = 4 ∨ k = 6 then 1 + en e
    else if k = 2 ∨ k = 3 ∨ k = 9 then 1
    else if k = 5 then 2
    else if k = 7 then 1 + en e + sns b + (if c.length = 0 then 0 else 1 + sns c)
    else if k = 8 then n.toNat * sns b
    else 0
def sns : List St → Nat
  | [] => 0
  | a :: l => sn a + sns l
end
theorem en_eq (e : Ex) : en e = own e.kind + ens e.of := by cases e; simp [en, Ex.kind, Ex.of]
theorem sn_eq (s : St) : sn s = if s.kind = 1 ∨ s.kind = 4 ∨ s.kind = 6 then 1 + en s.e
    else if s.kind = 2 ∨ s.kind = 3 ∨ s.kind = 9 then 1
    else if s.kind = 5 then 2
    else if s.kind = 7 then 1 + en s.e + sns s.body + (if s.els.length = 0 then 0 else 1 + sns s.els)
    else if s.kind = 8 then s.n.toNat * sns s.body
    else 0 := by cases s; rw [sn]; rfl
theorem ens_append (l m : List Ex) : ens (l ++ m) = ens l + ens m := by
  induction l with
  | nil => simp [ens]
  | cons a l ih => simp [ens, ih]; omega
theorem sns_append (l m : List St) : sns (l ++ m) = sns l + sns m := by
  induction l with
  | nil => simp [sns]
  | cons a l ih => simp [sns, ih]; omega
theorem ens_take (l : List Ex) (k : Nat) (h : k < l.length) : ens (l.take (k + 1)) = ens (l.take k) + en l[k] := by
  rw [List.take_succ_eq_append_getElem h, ens_append]; simp [ens]
theorem sns_take (l : List St) (k : Nat) (h : k < l.length) : sns (l.take (k + 1)) = sns (l.take k) + sn l[k] := by
  rw [List.take_succ_eq_append_getElem h, sns_append]; simp [sns]
theorem ens_take_le (l : List Ex) (k : Nat) : ens (l.take k) ≤ ens l := by
  have := ens_append (l.take k) (l.drop k)
  rw [List.take_append_drop] at this; omega
theorem own_le (k : Int) : own k ≤ 1 := by unfold own; split <;> omega
theorem ens_size : ∀ l : List Ex, (∀ e ∈ l, en e ≤ e.size) → ens l ≤ Ex.sizes l
  | [], _ => by simp [ens]
  | a :: l, h => by
    have h1 := h a (List.mem_cons_self ..)
    have h2 := ens_size l fun e he => h e (List.mem_cons_of_mem _ he)
    simp only [ens, Ex.sizes]; omega
theorem en_size (e : Ex) : en e ≤ e.size := Ex.ind (P := fun e => en e ≤ e.size) (fun e H => by
  rw [en_eq, Ex.size_eq]
  have h1 := own_le e.kind
  have h2 := ens_size e.of H
  omega) e
theorem cap_le (n : Nat) : cap n ≤ 2147483647 := by unfold cap; split <;> omega
theorem cap_id {n : Nat} (h : n ≤ 2147483647) : cap n = n := by unfold cap; rw [if_pos h]
theorem cap_add (a b : Nat) : cap (cap a + cap b) = cap (a + b) := by unfold cap; (repeat' split) <;> omega
theorem cap_addl (a b : Nat) : cap (cap a + b) = cap (a + b) := by unfold cap; (repeat' split) <;> omega
theorem cap_if (a b : Nat) : cap (cap (1 + cap a) + cap b) = cap (1 + a + b) := by unfold cap; (repeat' split) <;> omega
theorem cap_else (a b : Nat) : cap (cap (cap a + 1) + cap b) = cap (a + (1 + b)) := by unfold cap; (repeat' split) <;> omega
theorem cap_int (v : Int) (n : Nat) (h : v = n) : (if 2147483647 < v then 2147483647 else v) = ((cap n : Nat) : Int) := by subst h; unfold cap; split <;> split <;> omega
theorem cap_most {n : Nat} (h : 2147483647 ≤ n) : cap n = 2147483647 := by unfold cap; split <;> omega
theorem cap_addr (a b : Nat) : cap (a + cap b) = cap (a + b) := by unfold cap; (repeat' split) <;> omega
theorem cap_mul (n a : Nat) : cap (n * cap a) = cap (n * a) := by
  cases n with
  | zero => simp
  | succ n =>
    unfold cap
    by_cases h : a ≤ 2147483647
    · rw [if_pos h]
    · rw [if_neg h]
      have h1 : 2147483647 ≤ (n + 1) * 2147483647 := Nat.le_mul_of_pos_left _ (by omega)
      have h2 : a ≤ (n + 1) * a := Nat.le_mul_of_pos_left _ (by omega)
      by_cases h3 : (n + 1) * 2147483647 ≤ 2147483647
      · rw [if_pos h3, if_neg (by omega)]; omega
      · rw [if_neg h3, if_neg (by omega)]
theorem cap_mulr (a n b : Nat) : cap (a + n * cap b) = cap (a + n * b) := by rw [← cap_addr, cap_mul, cap_addr]
theorem quo_most (b : Nat) : IntKind.i64.wrap (Int.tdiv 2147483647 (b : Int)) = ((2147483647 / b : Nat) : Int) := by
  have h1 : 2147483647 / b ≤ 2147483647 := Nat.div_le_self _ _
  rw [show Int.tdiv 2147483647 (b : Int) = ((2147483647 / b : Nat) : Int) from rfl]
  generalize 2147483647 / b = q at *
  rw [IntKind.wrap_i64]; omega
end Bn
open Bn
/-- What plus tells. -/
theorem bplus_any (a b : Nat) (ha : a ≤ 2147483647) (hb : b ≤ 2147483647) (w : World) :
    Calls Try.prog 39 #[.int .i64 (a : Int), .int .i64 (b : Int)] w fun r w' => r = .returned (.int .i64 (cap (a + b) : Int)) ∧ w' = w := by
  go_enter Try.func39, Try.ntmps39
  by_cases h : a + b ≤ 2147483647
  · have h1 : ¬ ((a : Int) > IntKind.i64.wrap (2147483647 - (b : Int))) := by rw [IntKind.wrap_i64]; omega
    have h2 : IntKind.i64.wrap ((a : Int) + (b : Int)) = ((cap (a + b) : Nat) : Int) := by rw [cap_id h, IntKind.wrap_i64]; omega
    go_wp2_with fail
    go_ret
    first | exact ⟨rfl, rfl⟩ | exact ⟨ret_int h2, rfl⟩
  · have h1 : ((a : Int) > IntKind.i64.wrap (2147483647 - (b : Int))) := by rw [IntKind.wrap_i64]; omega
    have h2 : (2147483647 : Int) = ((cap (a + b) : Nat) : Int) := by unfold cap; rw [if_neg h]; rfl
    go_wp2_with fail
    go_ret
    first | exact ⟨rfl, rfl⟩ | exact ⟨ret_int h2, rfl⟩
/-- What times tells. -/
theorem btimes_any (n : Int) (a : Nat) (hn1 : -9223372036854775808 ≤ n) (hn2 : n ≤ 9223372036854775807) (ha : a ≤ 2147483647) (w : World) :
    Calls Try.prog 63 #[.int .i64 n, .int .i64 (a : Int)] w fun r w' => r = .returned (.int .i64 (cap (n.toNat * a) : Int)) ∧ w' = w := by
  go_enter Try.func63, Try.ntmps63
  by_cases h0 : n ≤ 0
  · have h2 : (0 : Int) = ((cap (n.toNat * a) : Nat) : Int) := by rw [Int.toNat_of_nonpos h0, Nat.zero_mul]; rfl
    go_wp2_with fail
    go_ret
    first | exact ⟨ret_int h2, rfl⟩ | exact ⟨rfl, rfl⟩
  · by_cases h1 : (a : Int) = 0
    · have h2 : (0 : Int) = ((cap (n.toNat * a) : Nat) : Int) := by rw [show a = 0 by omega, Nat.mul_zero]; rfl
      go_wp2_with fail
      go_ret
      first | exact ⟨ret_int h2, rfl⟩ | exact ⟨rfl, rfl⟩
    · obtain ⟨m, rfl⟩ : ∃ m : Nat, n = (m : Int) := ⟨n.toNat, by omega⟩
      obtain ⟨q, hq⟩ : ∃ q : Nat, 2147483647 / a = q := ⟨_, rfl⟩
      have hq2 : q ≤ 2147483647 := hq ▸ Nat.div_le_self _ _
      have hq3 : (2147483647 : Int) / (a : Int) = (q : Int) := by rw [← hq]; rfl
      have hw : wrap64 (2147483647 / (a : Int)) = (q : Int) := by rw [hq3]; unfold wrap64; omega
      by_cases h3 : m ≤ q
      · have h4 : m * a ≤ 2147483647 := by
          rw [← hq] at h3
          exact Nat.le_trans (Nat.mul_le_mul_right a h3) (Nat.div_mul_le_self _ _)
        have h5 : ¬ ((m : Int) > (q : Int)) := by omega
        have H2 : Hid (((m : Int) * (a : Int)) = ((cap (m * a) : Nat) : Int)) := by
          show _ = _
          rw [cap_id h4, ← Int.natCast_mul]
        have h6 : (m : Int) * (a : Int) ≤ 2147483647 := by rw [← Int.natCast_mul]; omega
        have h7 : 0 ≤ (m : Int) * (a : Int) := by rw [← Int.natCast_mul]; omega
        go_wp2_with fail
        go_ret
        first | exact ⟨ret_int H2.out, rfl⟩ | exact ⟨rfl, rfl⟩
      · have h4 : ¬ m * a ≤ 2147483647 := fun h => h3 (hq ▸ (Nat.le_div_iff_mul_le (by omega)).2 h)
        have h5 : ((m : Int) > (q : Int)) := by omega
        have H2 : Hid ((2147483647 : Int) = ((cap (m * a) : Nat) : Int)) := by
          show _ = _
          unfold cap; rw [if_neg h4]; rfl
        go_wp2_with fail
        go_ret
        first | exact ⟨ret_int H2.out, rfl⟩ | exact ⟨rfl, rfl⟩
end Go.Proofs.Ytnfkjmafhaecgaa
