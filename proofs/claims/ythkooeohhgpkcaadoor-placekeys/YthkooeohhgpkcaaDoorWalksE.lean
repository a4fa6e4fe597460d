/- PlaceApart answers true at every text of at most 2^48 bytes, at whatever memory in which the table of powers of ten lies as the program's text lays it. -/
import Derived.Test.YthkooeohhgpkcaaDoorWalksD
namespace Go.Proofs.YthkooeohhgpkcaaDoor
open Go.RowKit

theorem of_in (s : ByteArray) (k : Nat) (hs : s.size ≤ 281474976710656) (hk : k ≤ s.size) (w : World) :
    Calls Tryd.prog 11 #[.string s, .int .i64 (k : Int)] w fun e w' => e = .returned (.complex .f64 (lineW s k) (colW s k)) ∧ w' = w := by
  have e : clampAt (k : Int) s.size = k := by unfold clampAt; omega
  refine of_at s k _ _ hs ?_ ?_ w <;> rw [e] <;> rfl

theorem lt53 (s : ByteArray) (k : Nat) (hs : s.size ≤ 281474976710656) (hk : k ≤ s.size) : (Sp.spot (s.data.toList.take k)).1 < 2 ^ 53 ∧ (Sp.spot (s.data.toList.take k)).2 < 2 ^ 53 := by
  have hsp := Sp.spot_le (s.data.toList.take k)
  have hlen : (s.data.toList.take k).length ≤ k := List.length_take_le _ _
  omega

theorem rep_line (s : ByteArray) (k : Nat) (hs : s.size ≤ 281474976710656) (hk : k ≤ s.size) : Fp.Rep (lineW s k) (Sp.spot (s.data.toList.take k)).1 := Fp.rep_rung _ (lt53 s k hs hk).1
theorem rep_col (s : ByteArray) (k : Nat) (hs : s.size ≤ 281474976710656) (hk : k ≤ s.size) : Fp.Rep (colW s k) (Sp.spot (s.data.toList.take k)).2 := Fp.rep_rung _ (lt53 s k hs hk).2

theorem cmp_eq (a b : Nat) : ((some (compare a b) : Option Ordering) == some .eq) = decide (a = b) := by
  rcases Nat.lt_trichotomy a b with h | h | h
  · rw [Nat.compare_eq_lt.2 h]; simp; omega
  · subst h; simp
  · rw [Nat.compare_eq_gt.2 h]; simp; omega

theorem cmp_lt (a b : Nat) : ((some (compare a b) : Option Ordering) == some .lt) = decide (a < b) := by
  rcases Nat.lt_trichotomy a b with h | h | h
  · rw [Nat.compare_eq_lt.2 h]; simp; omega
  · subst h; simp
  · rw [Nat.compare_eq_gt.2 h]; simp; omega

theorem same_words (s : ByteArray) (i j : Nat) (hs : s.size ≤ 281474976710656) (hi : i ≤ s.size) (hj : j ≤ s.size) : same (lineW s i) (colW s i) (lineW s j) (colW s j) = decide (i = j) := by
  unfold same
  rw [Fp.order_rep (rep_line s i hs hi) (rep_line s j hs hj), Fp.order_rep (rep_col s i hs hi) (rep_col s j hs hj), cmp_eq, cmp_eq]
  have := Sp.apart s.data.toList i j (by simpa using hi) (by simpa using hj)
  rw [Prod.ext_iff] at this
  rw [← Bool.decide_and]
  exact decide_eq_decide.2 this

theorem less_pair (p q : Nat × Nat) : (if decide (p.1 = q.1) = true then decide (p.2 < q.2) else decide (p.1 < q.1)) = decide (p.1 < q.1 ∨ p.1 = q.1 ∧ p.2 < q.2) := by
  by_cases h : p.1 = q.1
  · simp [h]
  · simp [h]

theorem less_words (s : ByteArray) (i j : Nat) (hs : s.size ≤ 281474976710656) (hi : i ≤ s.size) (hj : j ≤ s.size) :
    (if Ieee.double.order (lineW s i) (lineW s j) == some .eq then Ieee.double.order (colW s i) (colW s j) == some .lt else Ieee.double.order (lineW s i) (lineW s j) == some .lt) = decide (i < j) := by
  rw [Fp.order_rep (rep_line s i hs hi) (rep_line s j hs hj), Fp.order_rep (rep_col s i hs hi) (rep_col s j hs hj), cmp_eq, cmp_lt, cmp_lt]
  have := Sp.lt_iff s.data.toList i j (by simpa using hi) (by simpa using hj)
  unfold Sp.Lt at this
  rw [← decide_eq_decide.2 this]
  exact less_pair _ _

theorem less_at_words (s : ByteArray) (i j : Nat) (r : Bool) (hs : s.size ≤ 281474976710656) (hi : i ≤ s.size) (hj : j ≤ s.size) (hr : decide (i < j) = r) (w : World) :
    Calls Tryd.prog 13 #[.complex .f64 (lineW s i) (colW s i), .complex .f64 (lineW s j) (colW s j)] w fun e w' => e = .returned (.bool r) ∧ w' = w :=
  less_at _ _ _ _ r ((less_words s i j hs hi hj).trans hr) w

theorem back_words (s : ByteArray) (i : Nat) (hs : s.size ≤ 281474976710656) (hi : i ≤ s.size) (w : World) :
    Calls Tryd.prog 9 #[.string s, .complex .f64 (lineW s i) (colW s i)] w fun e w' => e = .returned (.tuple #[.int .i64 i, .bool true]) ∧ w' = w := by
  refine back_hit s _ _ i w hs hi ?_ fun j hj => ?_
  · rw [same_words s i i hs hi hi]; simp
  · rw [same_words s j i hs (by omega) hi]; simp; omega

theorem pick_at (a : Int) (m : Nat) (hm : m ≤ 4611686018427387903) : ∃ k : Nat, k ≤ m ∧ ∀ w, Calls Tryd.prog 14 #[.int .i64 a, .int .i64 ((m : Int) + 1)] w fun e w' => e = .returned (.int .i64 (k : Int)) ∧ w' = w := by
  have h1 := Int.emod_nonneg a (by omega : (m : Int) + 1 ≠ 0)
  have h2 := Int.emod_lt_of_pos a (by omega : 0 < (m : Int) + 1)
  obtain ⟨k, hk⟩ := Int.eq_ofNat_of_zero_le h1
  refine ⟨k, by omega, fun w => ?_⟩
  have := pick_any a ((m : Int) + 1) w (by omega) (by omega)
  rwa [hk] at this

set_option maxHeartbeats 1000000 in
theorem placeApart_any (s : ByteArray) (a b : Int) (w : World) (hs : s.size ≤ 281474976710656) (ht : Tab w) :
    Calls Tryd.prog 5 #[.string s, .int .i64 a, .int .i64 b] w fun e w' => e = .returned (.bool true) ∧ Kept w w' := by
  have HT : Hid (Tab w) := ht
  clear ht
  obtain ⟨i, hi, pi⟩ := pick_at a s.size (by omega)
  obtain ⟨j, hj, pj⟩ := pick_at b s.size (by omega)
  have PI : Hid (∀ w, _) := pi
  have PJ : Hid (∀ w, _) := pj
  clear pi pj
  have OI : Hid (∀ w, _) := of_in s i hs hi
  have OJ : Hid (∀ w, _) := of_in s j hs hj
  have BI : Hid (∀ w, _) := back_words s i hs hi
  obtain ⟨r0, hr0⟩ : ∃ r : Bool, decide (i = j) = r := ⟨_, rfl⟩
  obtain ⟨r1, hr1⟩ : ∃ r : Bool, decide (i < j) = r := ⟨_, rfl⟩
  obtain ⟨r2, hr2⟩ : ∃ r : Bool, decide (j < i) = r := ⟨_, rfl⟩
  have LI : Hid (∀ w, _) := less_at_words s i j r1 hs hi hj hr1
  have LJ : Hid (∀ w, _) := less_at_words s j i r2 hs hj hi hr2
  have hE : ∀ w, (binOp .eql 24 (.complex .f64 (lineW s i) (colW s i)) (.complex .f64 (lineW s j) (colW s j))).run Tryd.prog w = .ok (.bool r0) w := fun w => by rw [run_same, same_words s i j hs hi hj, hr0]
  have t0 : ((i : Int) == (j : Int)) = r0 := by rw [← hr0, Bool.eq_iff_iff]; simp; omega
  clear hr0
  go_enter Tryd.func5, Tryd.ntmps5
  go_wp2_with fail
  refine (PI.out _).mono ?_
  rintro e w1 ⟨rfl, rfl⟩
  go_wp2_with fail
  refine (PJ.out _).mono ?_
  rintro e w1 ⟨rfl, rfl⟩
  go_wp2_with fail
  refine (OI.out _).mono ?_
  rintro e w1 ⟨rfl, rfl⟩
  go_wp2_with fail
  refine (OJ.out _).mono ?_
  rintro e w1 ⟨rfl, rfl⟩
  go_wp2_with fail
  refine (BI.out _).mono ?_
  rintro e w1 ⟨rfl, rfl⟩
  go_wp2_with fail
  refine (known_any _ HT.out).mono ?_
  rintro e w1 ⟨rfl, q1⟩
  have Q1 : Hid (Kept _ _) := q1
  clear q1
  go_wp2_with fail
  refine (LI.out _).mono ?_
  rintro e w2 ⟨rfl, rfl⟩
  go_wp2_with fail
  refine (LJ.out _).mono ?_
  rintro e w2 ⟨rfl, rfl⟩
  go_wp2
  go_ret
  exact ⟨rfl, Q1.out⟩

end Go.Proofs.YthkooeohhgpkcaaDoor
