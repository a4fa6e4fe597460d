/- PlaceJoins answers true at every two texts of at most 2^47 bytes each, at whatever memory in which the table of powers of ten lies as the program's text lays it. -/
import Derived.Test.YthkooeohhgpkcaaDoorWalksE
namespace Go.Proofs.YthkooeohhgpkcaaDoor
open Go.RowKit

section
variable {P : Program} (w : World)

theorem run_cadd (a b c d : Nat) (h1 : a + c < 2 ^ 53) (h2 : b + d < 2 ^ 53) : (binOp .add 24 (.complex .f64 (Fp.rung a) (Fp.rung b)) (.complex .f64 (Fp.rung c) (Fp.rung d))).run P w = .ok (.complex .f64 (Fp.rung (a + c)) (Fp.rung (b + d))) w := by
  have e1 : floatBits .add .f64 (Fp.rung a) (Fp.rung c) = some (Fp.rung (a + c)) := Fp.add_rep (Fp.rep_rung a (by omega)) (Fp.rep_rung c (by omega)) h1
  have e2 : floatBits .add .f64 (Fp.rung b) (Fp.rung d) = some (Fp.rung (b + d)) := Fp.add_rep (Fp.rep_rung b (by omega)) (Fp.rep_rung d (by omega)) h2
  exact run_complex_sum w .add (Or.inl rfl) 24 .f64 _ _ _ _ _ _ (by simp [cSumBits, e1, e2])

theorem run_csub (a b c d : Nat) (h1 : c ≤ a) (h2 : d ≤ b) (h3 : a < 2 ^ 53) (h4 : b < 2 ^ 53) : (binOp .sub 24 (.complex .f64 (Fp.rung a) (Fp.rung b)) (.complex .f64 (Fp.rung c) (Fp.rung d))).run P w = .ok (.complex .f64 (Fp.rung (a - c)) (Fp.rung (b - d))) w := by
  have e1 : floatBits .sub .f64 (Fp.rung a) (Fp.rung c) = some (Fp.rung (a - c)) := Fp.sub_rep (Fp.rep_rung a (by omega)) (Fp.rep_rung c (by omega)) h1 h3
  have e2 : floatBits .sub .f64 (Fp.rung b) (Fp.rung d) = some (Fp.rung (b - d)) := Fp.sub_rep (Fp.rep_rung b (by omega)) (Fp.rep_rung d (by omega)) h2 h4
  exact run_complex_sum w .sub (Or.inr rfl) 24 .f64 _ _ _ _ _ _ (by simp [cSumBits, e1, e2])

theorem run_fadd (a b : Nat) (h : a + b < 2 ^ 53) : (binOp .add 25 (.float .f64 (Fp.rung a)) (.float .f64 (Fp.rung b))).run P w = .ok (.float .f64 (Fp.rung (a + b))) w :=
  run_float_arith w .add 25 .f64 _ _ _ (Fp.add_rep (Fp.rep_rung a (by omega)) (Fp.rep_rung b (by omega)) h)

theorem run_fsub (a b : Nat) (h : b ≤ a) (h2 : a < 2 ^ 53) : (binOp .sub 25 (.float .f64 (Fp.rung a)) (.float .f64 (Fp.rung b))).run P w = .ok (.float .f64 (Fp.rung (a - b))) w :=
  run_float_arith w .sub 25 .f64 _ _ _ (Fp.sub_rep (Fp.rep_rung a (by omega)) (Fp.rep_rung b (by omega)) h h2)

theorem feql_eq (a b : Nat) (ha : a < 2 ^ 53) (hb : b < 2 ^ 53) : (FloatKind.f64.format.order (Fp.rung a) (Fp.rung b) == some .eq) = decide (a = b) := by
  have : FloatKind.f64.format.order (Fp.rung a) (Fp.rung b) = some (compare a b) := Fp.order_rep (Fp.rep_rung a ha) (Fp.rep_rung b hb)
  rw [this, cmp_eq]

theorem run_ceql (a b : Nat) (ha : a < 2 ^ 53) (hb : b < 2 ^ 53) : (binOp .eql 24 (.complex .f64 (Fp.rung a) (Fp.rung b)) (.complex .f64 (Fp.rung a) (Fp.rung b))).run P w = .ok (.bool true) w := by
  rw [run_same]
  unfold same
  rw [Fp.order_rep (Fp.rep_rung a ha) (Fp.rep_rung a ha), Fp.order_rep (Fp.rep_rung b hb) (Fp.rep_rung b hb), cmp_eq, cmp_eq]
  simp
end

/-- The place of byte k, in numbers. -/
theorem of_spot (s : ByteArray) (k l c : Nat) (hs : s.size ≤ 281474976710656) (hk : k ≤ s.size) (hp : Sp.spot (s.data.toList.take k) = (l, c)) (w : World) :
    Calls Tryd.prog 11 #[.string s, .int .i64 (k : Int)] w fun e w' => e = .returned (.complex .f64 (Fp.rung l) (Fp.rung c)) ∧ w' = w := by
  have := of_in s k hs hk w
  unfold lineW colW at this
  rwa [hp] at this

set_option maxHeartbeats 1000000 in
theorem placeJoins_any (s t : ByteArray) (a : Int) (w : World) (hs : s.size ≤ 140737488355328) (ht : t.size ≤ 140737488355328) (hT : Tab w) :
    Calls Tryd.prog 6 #[.string s, .string t, .int .i64 a] w fun e w' => e = .returned (.bool true) ∧ Kept w w' := by
  have HT : Hid (Tab w) := hT
  clear hT
  obtain ⟨k, hk, pk⟩ := pick_at a t.size (by omega)
  have PK : Hid (∀ w, _) := pk
  clear pk
  obtain ⟨⟨le, ce⟩, he⟩ : ∃ p, Sp.spot (s.data.toList.take s.size) = p := ⟨_, rfl⟩
  obtain ⟨⟨lt, ct⟩, htk⟩ : ∃ p, Sp.spot (t.data.toList.take k) = p := ⟨_, rfl⟩
  have OE : Hid (∀ w, _) := of_spot s s.size le ce (by omega) (Nat.le_refl _) he
  have OT : Hid (∀ w, _) := of_spot t k lt ct (by omega) hk htk
  have hsz : (s ++ t).size = s.size + t.size := ByteArray.size_append
  have hsp := Sp.spot_append (s.data.toList.take s.size) (t.data.toList.take k)
  have hl1 : s.data.toList.length = s.size := by simp
  have etake : (s ++ t).data.toList.take (s.size + k) = s.data.toList.take s.size ++ t.data.toList.take k := by
    rw [ByteArray.data_append, Array.toList_append, List.take_append, hl1, List.take_of_length_le (by omega), List.take_of_length_le (by omega : s.data.toList.length ≤ s.size)]
    congr 2
    omega
  have b1 := Sp.spot_le (s.data.toList.take s.size)
  have b2 := Sp.spot_le (t.data.toList.take k)
  have n1 : (s.data.toList.take s.size).length ≤ s.size := List.length_take_le _ _
  have n2 : (t.data.toList.take k).length ≤ k := List.length_take_le _ _
  have p1 := Sp.line_pos (s.data.toList.take s.size)
  have p2 := Sp.col_pos (s.data.toList.take s.size)
  have p3 := Sp.line_pos (t.data.toList.take k)
  have p4 := Sp.col_pos (t.data.toList.take k)
  rw [he, htk] at hsp
  rw [he] at b1 p1 p2
  rw [htk] at b2 p3 p4
  simp only at hsp b1 b2 p1 p2 p3 p4
  have w1 : ∀ w, _ := fun w => run_fsub (P := Tryd.prog) w le 1 (by omega) (by omega)
  have w2 : ∀ w, _ := fun w => run_cadd (P := Tryd.prog) w lt ct (le - 1) 0 (by omega) (by omega)
  have w3 := feql_eq lt 1 (by omega) (by decide)
  rw [← one_rung] at w1 w3
  rw [← zero_rung, Nat.add_zero] at w2
  by_cases hc : lt = 1
  · rw [if_pos hc] at hsp
    have OJ : Hid (∀ w, _) := of_spot (s ++ t) (s.size + k) (lt + (le - 1)) (ct + (ce - 1)) (by omega) (by omega) (by rw [etake, hsp])
    have w4 : ∀ w, _ := fun w => run_cadd (P := Tryd.prog) w lt ct le ce (by omega) (by omega)
    have w5 : ∀ w, _ := fun w => run_csub (P := Tryd.prog) w (lt + le) (ct + ce) 1 1 (by omega) (by omega) (by omega) (by omega)
    rw [← one_rung] at w5
    have w6 : ∀ w, _ := fun w => run_ceql (P := Tryd.prog) w (lt + (le - 1)) (ct + (ce - 1)) (by omega) (by omega)
    rw [show lt + le - 1 = lt + (le - 1) by omega, show ct + ce - 1 = ct + (ce - 1) by omega] at w5
    have hd : decide (lt = 1) = true := decide_eq_true hc
    rw [hd] at w3
    generalize Fp.rung (lt + (le - 1)) = X at *
    generalize Fp.rung (ct + (ce - 1)) = Y at *
    generalize Fp.rung (lt + le) = X2 at *
    generalize Fp.rung (ct + ce) = Y2 at *
    generalize Fp.rung (le - 1) = Z at *
    generalize Fp.rung lt = LT at *
    generalize Fp.rung ct = CT at *
    generalize Fp.rung le = LE at *
    generalize Fp.rung ce = CE at *
    clear hsp etake he htk hd hsz hl1 b1 b2 n1 n2 p1 p2 p3 p4 hc
    go_enter Tryd.func6, Tryd.ntmps6
    go_wp2_with fail
    refine (PK.out _).mono ?_
    rintro e w1 ⟨rfl, rfl⟩
    go_wp2_with fail
    refine (OE.out _).mono ?_
    rintro e w1 ⟨rfl, rfl⟩
    go_wp2_with fail
    refine (OT.out _).mono ?_
    rintro e w1 ⟨rfl, rfl⟩
    go_wp2_with fail
    refine (known_any _ HT.out).mono ?_
    rintro e w1 ⟨rfl, q1⟩
    have Q1 : Hid (Kept _ _) := q1
    clear q1
    go_wp2_with fail
    refine (OJ.out _).mono ?_
    rintro e w2 ⟨rfl, rfl⟩
    go_wp2
    go_ret
    exact ⟨rfl, Q1.out⟩
  · rw [if_neg hc] at hsp
    have OJ : Hid (∀ w, _) := of_spot (s ++ t) (s.size + k) (lt + (le - 1)) ct (by omega) (by omega) (by rw [etake, hsp])
    have w6 : ∀ w, _ := fun w => run_ceql (P := Tryd.prog) w (lt + (le - 1)) ct (by omega) (by omega)
    have hd : decide (lt = 1) = false := decide_eq_false hc
    rw [hd] at w3
    generalize Fp.rung (lt + (le - 1)) = X at *
    generalize Fp.rung (le - 1) = Z at *
    generalize Fp.rung lt = LT at *
    generalize Fp.rung ct = CT at *
    generalize Fp.rung le = LE at *
    generalize Fp.rung ce = CE at *
    clear hsp etake he htk hd hsz hl1 b1 b2 n1 n2 p1 p2 p3 p4 hc
    go_enter Tryd.func6, Tryd.ntmps6
    go_wp2_with fail
    refine (PK.out _).mono ?_
    rintro e w1 ⟨rfl, rfl⟩
    go_wp2_with fail
    refine (OE.out _).mono ?_
    rintro e w1 ⟨rfl, rfl⟩
    go_wp2_with fail
    refine (OT.out _).mono ?_
    rintro e w1 ⟨rfl, rfl⟩
    go_wp2_with fail
    refine (known_any _ HT.out).mono ?_
    rintro e w1 ⟨rfl, q1⟩
    have Q1 : Hid (Kept _ _) := q1
    clear q1
    go_wp2_with fail
    refine (OJ.out _).mono ?_
    rintro e w2 ⟨rfl, rfl⟩
    go_wp2
    go_ret
    exact ⟨rfl, Q1.out⟩

end Go.Proofs.YthkooeohhgpkcaaDoor
