/- PlaceLines answers true at every text of at most 2^47 bytes, at whatever memory in which the table of powers of ten lies as the program's text lays it. -/
import Derived.Test.YthkooeohhgpkcaaDoorWalksF
import Derived.Deep.QuietTactic
import Derived.BigQuiet
namespace Go.Proofs.YthkooeohhgpkcaaDoor
open Go.RowKit

theorem toList_from (s : ByteArray) (k : Nat) : (s.extract k s.size).data.toList = s.data.toList.drop k := by
  rw [ByteArray.data_extract, Array.toList_extract, List.extract_eq_take_drop]
  rw [List.take_of_length_le (by simp)]

theorem Kept.drewN {a b : World} (h : Kept a b) (n : Nat) : Kept a (b.drewN n) := Below.trans h ⟨rfl, rfl, rfl, Nat.le_refl _, fun _ _ => rfl⟩

theorem fed_list (s : ByteArray) (k : Nat) : (s.extract 0 k ++ ⟨#[10]⟩ ++ s.extract k s.size).data.toList = s.data.toList.take k ++ [10] ++ s.data.toList.drop k := by
  rw [ByteArray.data_append, ByteArray.data_append, Array.toList_append, Array.toList_append, toList_extract, toList_from]

set_option maxHeartbeats 1000000 in
theorem lines_low (s : ByteArray) (u v : Int) (i k : Nat) (w : World) (hs : s.size ≤ 140737488355328) (hT : Tab w) (hk : k ≤ s.size) (hi : i ≤ s.size) (hik : i < k)
    (pk : ∀ w, Calls Tryd.prog 14 #[.int .i64 u, .int .i64 ((s.size : Int) + 1)] w fun e w' => e = .returned (.int .i64 (k : Int)) ∧ w' = w)
    (pi : ∀ w, Calls Tryd.prog 14 #[.int .i64 v, .int .i64 ((s.size : Int) + 1)] w fun e w' => e = .returned (.int .i64 (i : Int)) ∧ w' = w) :
    Calls Tryd.prog 8 #[.string s, .int .i64 u, .int .i64 v] w fun e w' => e = .returned (.bool true) ∧ Kept w w' := by
  have HT : Hid (Tab w) := hT
  have PK : Hid (∀ w, _) := pk
  have PI : Hid (∀ w, _) := pi
  clear hT pk pi
  obtain ⟨⟨la, ca⟩, ha⟩ : ∃ p, Sp.spot (s.data.toList.take i) = p := ⟨_, rfl⟩
  have hl1 : s.data.toList.length = s.size := by simp
  have OA : Hid (∀ w, _) := of_spot s i la ca (by omega) hi ha
  have hsz : (s.extract 0 k ++ ⟨#[10]⟩ ++ s.extract k s.size).size = s.size + 1 := by
    rw [ByteArray.size_append, ByteArray.size_append, ByteArray.size_extract, ByteArray.size_extract]
    show _ + 1 + _ = _
    omega
  have etake : (s.extract 0 k ++ ⟨#[10]⟩ ++ s.extract k s.size).data.toList.take i = s.data.toList.take i := by
    rw [fed_list, List.append_assoc, List.take_append_of_le_length (by rw [List.length_take]; omega), List.take_take, Nat.min_eq_left (by omega)]
  have OB : Hid (∀ w, _) := of_spot (s.extract 0 k ++ ⟨#[10]⟩ ++ s.extract k s.size) i la ca (by omega) (by omega) (by rw [etake]; exact ha)
  have b1 := Sp.spot_le (s.data.toList.take i)
  have n1 : (s.data.toList.take i).length ≤ i := List.length_take_le _ _
  rw [ha] at b1
  simp only at b1
  have w6 : ∀ w, _ := fun w => run_ceql (P := Tryd.prog) w la ca (by omega) (by omega)
  have hk2 : (k : Int) ≤ (s.size : Int) := by omega
  have hi2 : (i : Int) < (k : Int) := by omega
  clear hsz etake ha hl1 b1 n1
  go_enter Tryd.func8, Tryd.ntmps8
  go_wp2_with fail
  refine (PK.out _).mono ?_
  rintro e w1 ⟨rfl, rfl⟩
  go_wp2_with fail
  refine (PI.out _).mono ?_
  rintro e w1 ⟨rfl, rfl⟩
  go_wp2_with fail
  go_quiet (fail)
  go_wp2_with fail
  refine (OA.out _).mono ?_
  rintro e w2 ⟨rfl, rfl⟩
  go_wp2_with fail
  refine (known_any _ (HT.out.kept ((Kept.refl _).drewN _))).mono ?_
  rintro e w2 ⟨rfl, q1⟩
  have Q1 : Hid (Kept _ _) := ((Kept.refl _).drewN _).then q1
  clear q1
  go_wp2_with fail
  refine (OB.out _).mono ?_
  rintro e w3 ⟨rfl, rfl⟩
  go_wp2
  go_ret
  exact ⟨rfl, Q1.out⟩

/-- The places of a byte at or behind the cut, in s and behind the line feed more. -/
theorem high_spots (s : ByteArray) (i k : Nat) (hi : i ≤ s.size) (hik : k ≤ i) : ∃ lk ck lm cm, Sp.spot (s.data.toList.take k) = (lk, ck) ∧ 1 ≤ lk ∧ 1 ≤ ck ∧ 1 ≤ lm ∧ 1 ≤ cm ∧ lk + ck ≤ s.size + 2 ∧ lm + cm ≤ s.size + 2 ∧
    Sp.spot (s.data.toList.take i) = (lm + (lk - 1), if lm = 1 then cm + (ck - 1) else cm) ∧
    Sp.spot ((s.extract 0 k ++ ⟨#[10]⟩ ++ s.extract k s.size).data.toList.take (i + 1)) = (lm + lk, cm) := by
  have hl1 : s.data.toList.length = s.size := by simp
  refine ⟨(Sp.spot (s.data.toList.take k)).1, (Sp.spot (s.data.toList.take k)).2, (Sp.spot ((s.data.toList.drop k).take (i - k))).1, (Sp.spot ((s.data.toList.drop k).take (i - k))).2, rfl, Sp.line_pos _, Sp.col_pos _, Sp.line_pos _, Sp.col_pos _, ?_, ?_, ?_, ?_⟩
  · have := Sp.spot_le (s.data.toList.take k)
    have n1 : (s.data.toList.take k).length ≤ k := List.length_take_le _ _
    omega
  · have := Sp.spot_le ((s.data.toList.drop k).take (i - k))
    have n1 : ((s.data.toList.drop k).take (i - k)).length ≤ i - k := List.length_take_le _ _
    omega
  · have e : s.data.toList.take i = s.data.toList.take k ++ (s.data.toList.drop k).take (i - k) := by
      rw [show i = k + (i - k) by omega, List.take_add, show k + (i - k) - k = i - k by omega]
    rw [e, Sp.spot_append]
  · have e : (s.extract 0 k ++ ⟨#[10]⟩ ++ s.extract k s.size).data.toList.take (i + 1) = (s.data.toList.take k ++ [10]) ++ (s.data.toList.drop k).take (i - k) := by
      rw [fed_list, List.take_append]
      have hlen : (s.data.toList.take k ++ [10]).length = k + 1 := by simp; omega
      rw [hlen, List.take_of_length_le (by omega), show i + 1 - (k + 1) = i - k by omega]
    rw [e, Sp.spot_append, Sp.spot_snoc]
    simp [Sp.on]

set_option maxHeartbeats 1000000 in
theorem lines_high (s : ByteArray) (u v : Int) (i k : Nat) (w : World) (hs : s.size ≤ 140737488355328) (hT : Tab w) (hk : k ≤ s.size) (hi : i ≤ s.size) (hik : k ≤ i)
    (pk : ∀ w, Calls Tryd.prog 14 #[.int .i64 u, .int .i64 ((s.size : Int) + 1)] w fun e w' => e = .returned (.int .i64 (k : Int)) ∧ w' = w)
    (pi : ∀ w, Calls Tryd.prog 14 #[.int .i64 v, .int .i64 ((s.size : Int) + 1)] w fun e w' => e = .returned (.int .i64 (i : Int)) ∧ w' = w) :
    Calls Tryd.prog 8 #[.string s, .int .i64 u, .int .i64 v] w fun e w' => e = .returned (.bool true) ∧ Kept w w' := by
  have HT : Hid (Tab w) := hT
  have PK : Hid (∀ w, _) := pk
  have PI : Hid (∀ w, _) := pi
  clear hT pk pi
  obtain ⟨lk, ck, lm, cm, e1, p1, p2, p3, p4, b1, b2, e2, e3⟩ := high_spots s i k hi hik
  have hsz : (s.extract 0 k ++ ⟨#[10]⟩ ++ s.extract k s.size).size = s.size + 1 := by
    rw [ByteArray.size_append, ByteArray.size_append, ByteArray.size_extract, ByteArray.size_extract]
    show _ + 1 + _ = _
    omega
  have OC : Hid (∀ w, _) := of_spot s k lk ck (by omega) hk e1
  have OB : Hid (∀ w, _) := of_spot (s.extract 0 k ++ ⟨#[10]⟩ ++ s.extract k s.size) (i + 1) (lm + lk) cm (by omega) (by omega) e3
  have hk2 : (k : Int) ≤ (s.size : Int) := by omega
  have hi2 : (k : Int) ≤ (i : Int) := by omega
  have t3 := feql_eq (lm + (lk - 1)) lk (by omega) (by omega)
  have w6 : ∀ w, _ := fun w => run_ceql (P := Tryd.prog) w (lm + lk) cm (by omega) (by omega)
  by_cases hc : lm = 1
  · subst hc
    rw [if_pos rfl] at e2
    have OA : Hid (∀ w, _) := of_spot s i (1 + (lk - 1)) (cm + (ck - 1)) (by omega) hi e2
    rw [show 1 + (lk - 1) = lk by omega] at OA t3
    have w1 : ∀ w, _ := fun w => run_csub (P := Tryd.prog) w lk (cm + (ck - 1)) lk ck (by omega) (by omega) (by omega) (by omega)
    have w2 : ∀ w, _ := fun w => run_fadd (P := Tryd.prog) w lk 1 (by omega)
    have w3 : ∀ w, _ := fun w => run_cadd (P := Tryd.prog) w (lk - lk) (cm + (ck - 1) - ck) (lk + 1) 1 (by omega) (by omega)
    rw [show lk - lk + (lk + 1) = 1 + lk by omega, show cm + (ck - 1) - ck + 1 = cm by omega] at w3
    rw [decide_eq_true rfl] at t3
    rw [← one_rung] at w2 w3
    generalize Fp.rung (lk - lk) = X1 at *
    generalize Fp.rung (cm + (ck - 1) - ck) = X2 at *
    generalize Fp.rung (cm + (ck - 1)) = CA at *
    generalize Fp.rung (lk + 1) = X3 at *
    generalize Fp.rung (1 + lk) = LB at *
    generalize Fp.rung lk = LK at *
    generalize Fp.rung ck = CK at *
    generalize Fp.rung cm = CM at *
    clear e1 e2 e3 hsz p1 p2 p3 p4 b1 b2
    go_enter Tryd.func8, Tryd.ntmps8
    go_wp2_with fail
    refine (PK.out _).mono ?_
    rintro e v1 ⟨rfl, rfl⟩
    go_wp2_with fail
    refine (PI.out _).mono ?_
    rintro e v1 ⟨rfl, rfl⟩
    go_wp2_with fail
    go_quiet (fail)
    go_wp2_with fail
    refine (OA.out _).mono ?_
    rintro e v2 ⟨rfl, rfl⟩
    go_wp2_with fail
    refine (OB.out _).mono ?_
    rintro e v2 ⟨rfl, rfl⟩
    go_wp2_with fail
    refine (OC.out _).mono ?_
    rintro e v2 ⟨rfl, rfl⟩
    go_wp2_with fail
    refine (known_any _ (HT.out.kept ((Kept.refl _).drewN _))).mono ?_
    rintro e v2 ⟨rfl, q1⟩
    have Q1 : Hid (Kept _ _) := ((Kept.refl _).drewN _).then q1
    clear q1
    go_wp2
    go_ret
    exact ⟨rfl, Q1.out⟩
  · rw [if_neg hc] at e2
    have OA : Hid (∀ w, _) := of_spot s i (lm + (lk - 1)) cm (by omega) hi e2
    have w1 : ∀ w, _ := fun w => run_cadd (P := Tryd.prog) w (lm + (lk - 1)) cm 1 0 (by omega) (by omega)
    rw [show lm + (lk - 1) + 1 = lm + lk by omega, Nat.add_zero] at w1
    rw [decide_eq_false (by omega)] at t3
    rw [← one_rung, ← zero_rung] at w1
    generalize Fp.rung (lm + (lk - 1)) = LA at *
    generalize Fp.rung (lm + lk) = LB at *
    generalize Fp.rung lk = LK at *
    generalize Fp.rung ck = CK at *
    generalize Fp.rung cm = CM at *
    clear e1 e2 e3 hsz p1 p2 p3 p4 b1 b2 hc
    go_enter Tryd.func8, Tryd.ntmps8
    go_wp2_with fail
    refine (PK.out _).mono ?_
    rintro e v1 ⟨rfl, rfl⟩
    go_wp2_with fail
    refine (PI.out _).mono ?_
    rintro e v1 ⟨rfl, rfl⟩
    go_wp2_with fail
    go_quiet (fail)
    go_wp2_with fail
    refine (OA.out _).mono ?_
    rintro e v2 ⟨rfl, rfl⟩
    go_wp2_with fail
    refine (OB.out _).mono ?_
    rintro e v2 ⟨rfl, rfl⟩
    go_wp2_with fail
    refine (OC.out _).mono ?_
    rintro e v2 ⟨rfl, rfl⟩
    go_wp2_with fail
    refine (known_any _ (HT.out.kept ((Kept.refl _).drewN _))).mono ?_
    rintro e v2 ⟨rfl, q1⟩
    have Q1 : Hid (Kept _ _) := ((Kept.refl _).drewN _).then q1
    clear q1
    go_wp2
    go_ret
    exact ⟨rfl, Q1.out⟩

theorem placeLines_any (s : ByteArray) (u v : Int) (w : World) (hs : s.size ≤ 140737488355328) (hT : Tab w) :
    Calls Tryd.prog 8 #[.string s, .int .i64 u, .int .i64 v] w fun e w' => e = .returned (.bool true) ∧ Kept w w' := by
  obtain ⟨k, hk, pk⟩ := pick_at u s.size (by omega)
  obtain ⟨i, hi, pi⟩ := pick_at v s.size (by omega)
  by_cases h : i < k
  · exact lines_low s u v i k w hs hT hk hi h pk pi
  · exact lines_high s u v i k w hs hT hk hi (by omega) pk pi

end Go.Proofs.YthkooeohhgpkcaaDoor
