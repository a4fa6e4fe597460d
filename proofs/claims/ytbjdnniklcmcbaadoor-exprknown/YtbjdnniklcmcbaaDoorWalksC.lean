/- What lex.signLength answers, at whatever memory. -/
import Derived.Test.YtbjdnniklcmcbaaDoorWalksA
namespace Go.Proofs.YtbjdnniklcmcbaaDoor
open Go.RowKit

def signLen (l : List UInt8) : Nat :=
  match l with
  | [] => 0
  | c :: r => if c = 61 then (if r.head? = some 61 then 2 else 1) else if Lx.signs.contains c then 1 else 0

theorem sign_of (c : UInt8) (h : c ≠ 61) : Lx.signs.contains c = (((c.toNat : Int) == 60) || ((c.toNat : Int) == 43) || ((c.toNat : Int) == 45) || ((c.toNat : Int) == 42) || ((c.toNat : Int) == 47) || ((c.toNat : Int) == 37) || ((c.toNat : Int) == 40) || ((c.toNat : Int) == 41) || ((c.toNat : Int) == 123) || ((c.toNat : Int) == 125)) := by
  have e : ∀ n : Nat, n < 256 → (c == UInt8.ofNat n) = ((c.toNat : Int) == (n : Int)) := by
    intro n hn
    rw [Bool.eq_iff_iff]
    simp only [beq_iff_eq]
    rw [← UInt8.toNat_inj, UInt8.toNat_ofNat', Nat.mod_eq_of_lt hn]
    omega
  have h61 : (c == 61) = false := by simpa using h
  have e1 := e 60 (by omega); have e2 := e 43 (by omega); have e3 := e 45 (by omega); have e4 := e 42 (by omega); have e5 := e 47 (by omega)
  have e6 := e 37 (by omega); have e7 := e 40 (by omega); have e8 := e 41 (by omega); have e9 := e 123 (by omega); have e10 := e 125 (by omega)
  simp only [Lx.signs, List.contains_cons, List.contains_nil, h61, Bool.false_or, Bool.or_false]
  rw [show (c == 60) = _ from e1, show (c == 43) = _ from e2, show (c == 45) = _ from e3, show (c == 42) = _ from e4, show (c == 47) = _ from e5, show (c == 37) = _ from e6, show (c == 40) = _ from e7, show (c == 41) = _ from e8, show (c == 123) = _ from e9, show (c == 125) = _ from e10]
  simp only [Bool.or_assoc]
  rfl

theorem list_bytes (d : ByteArray) (h : 0 < d.size) : d.data.toList = d[0] :: d.data.toList.tail := by
  have : 0 < d.data.toList.length := by simpa using h
  cases hl : d.data.toList with
  | nil => rw [hl] at this; simp at this
  | cons c r =>
    have e : d[0] = d.data.toList[0] := by rw [Array.getElem_toList]; rfl
    rw [e]
    simp [hl]

theorem tail_head (d : ByteArray) (h : 1 < d.size) : d.data.toList.tail.head? = some d[1] := by
  have hl : 1 < d.data.toList.length := by simpa using h
  rw [List.head?_eq_getElem?, List.getElem?_tail, List.getElem?_eq_getElem hl, Array.getElem_toList]
  rfl

theorem tail_none (d : ByteArray) (h : ¬ 1 < d.size) : d.data.toList.tail.head? = none := by
  have hl : ¬ 1 < d.data.toList.length := by simpa using h
  rw [List.head?_eq_getElem?, List.getElem?_tail, List.getElem?_eq_none (by omega)]

set_option maxHeartbeats 1000000 in
theorem signLength_eq (d : ByteArray) (n : Nat) (w : World) (h : 0 < d.size) (hs : d.size ≤ 6000) (hc : d[0] = 61) (hn : signLen d.data.toList = n) :
    Calls Tryd.prog 32 #[.string d] w fun e w' => e = .returned (.int .i64 (n : Int)) ∧ w' = w := by
  rw [list_bytes d h, signLen] at hn
  simp only [hc, if_true] at hn
  have hb : ((d[0].toNat : Int) == 61) = true := by rw [hc]; rfl
  have hl0 : (0 : Int) < (d.size : Int) := by omega
  by_cases h1 : 1 < d.size
  · rw [tail_head d h1] at hn
    have hl : (1 : Int) < (d.size : Int) := by omega
    by_cases h2 : d[1] = 61
    · rw [if_pos (by rw [h2])] at hn
      subst hn
      have hb2 : ((d[1].toNat : Int) == 61) = true := by rw [h2]; rfl
      clear hc h2
      go_enter Tryd.func32, Tryd.ntmps32
      go_wp2
      go_ret
      exact ⟨rfl, rfl⟩
    · rw [if_neg (by intro e; exact h2 (Option.some.inj e))] at hn
      subst hn
      have hb2 : ((d[1].toNat : Int) == 61) = false := by
        rw [beq_eq_false_iff_ne]; intro e; apply h2; apply UInt8.toNat_inj.1; show _ = 61; omega
      clear hc h2
      go_enter Tryd.func32, Tryd.ntmps32
      go_wp2
      go_ret
      exact ⟨rfl, rfl⟩
  · rw [tail_none d h1, if_neg (by intro e; cases e)] at hn
    subst hn
    have hl : decide ((1 : Int) < (d.size : Int)) = false := decide_eq_false (by omega)
    clear hc h1
    go_enter Tryd.func32, Tryd.ntmps32
    go_wp2
    go_ret
    exact ⟨rfl, rfl⟩

theorem bool_one (b : Bool) (n : Nat) (h : (if b then 1 else 0) = n) : ((if b = true then 1 else 0 : Nat) : Int) = n := by rw [h]

set_option maxHeartbeats 2000000 in
theorem signLength_ne (d : ByteArray) (n : Nat) (w : World) (h : 0 < d.size) (hs : d.size ≤ 6000) (hc : d[0] ≠ 61) (hn : signLen d.data.toList = n) :
    Calls Tryd.prog 32 #[.string d] w fun e w' => e = .returned (.int .i64 (n : Int)) ∧ w' = w := by
  rw [list_bytes d h, signLen, if_neg hc, sign_of _ hc] at hn
  have hb : ((d[0].toNat : Int) == 61) = false := by
    rw [beq_eq_false_iff_ne]; intro e; apply hc; apply UInt8.toNat_inj.1; show _ = 61; omega
  have hl0 : (0 : Int) < (d.size : Int) := by omega
  have HN : Hid (_ = n) := hn
  clear hc hn
  generalize hx : (d[0].toNat : Int) = x at *
  by_cases c1 : x = 60
  · have b1 : (x == 60) = true := by simp [c1]
    rw [b1] at HN
    clear c1
    go_enter Tryd.func32, Tryd.ntmps32
    go_wp2
    go_ret
    exact ⟨ret_int (by rw [← HN.out]; rfl), rfl⟩
  have b1 : (x == 60) = false := by simp [c1]
  rw [b1] at HN
  clear c1
  by_cases c1 : x = 43 ∨ x = 45 ∨ x = 42 ∨ x = 47 ∨ x = 37 ∨ x = 40 ∨ x = 41 ∨ x = 123 ∨ x = 125
  · have N1 : Hid (1 = n) := by
      rw [← HN.out]
      rcases c1 with rfl | rfl | rfl | rfl | rfl | rfl | rfl | rfl | rfl <;> rfl
    clear HN
    rcases c1 with rfl | rfl | rfl | rfl | rfl | rfl | rfl | rfl | rfl
    all_goals
      go_enter Tryd.func32, Tryd.ntmps32
      go_wp2
      go_ret
      exact ⟨ret_int (by rw [← N1.out]; rfl), rfl⟩
  · have m1 : (x == 43) = false := by simp; omega
    have m2 : (x == 45) = false := by simp; omega
    have m3 : (x == 42) = false := by simp; omega
    have m4 : (x == 47) = false := by simp; omega
    have m5 : (x == 37) = false := by simp; omega
    have m6 : (x == 40) = false := by simp; omega
    have m7 : (x == 41) = false := by simp; omega
    have m8 : (x == 123) = false := by simp; omega
    have m9 : (x == 125) = false := by simp; omega
    rw [m1, m2, m3, m4, m5, m6, m7, m8, m9] at HN
    clear c1
    go_enter Tryd.func32, Tryd.ntmps32
    go_wp2
    go_ret
    exact ⟨ret_int (by rw [← HN.out]; rfl), rfl⟩

theorem signLength_any (d : ByteArray) (n : Nat) (w : World) (h : 0 < d.size) (hs : d.size ≤ 6000) (hn : signLen d.data.toList = n) :
    Calls Tryd.prog 32 #[.string d] w fun e w' => e = .returned (.int .i64 (n : Int)) ∧ w' = w := by
  by_cases hc : d[0] = 61
  · exact signLength_eq d n w h hs hc hn
  · exact signLength_ne d n w h hs hc hn

end Go.Proofs.YtbjdnniklcmcbaaDoor
