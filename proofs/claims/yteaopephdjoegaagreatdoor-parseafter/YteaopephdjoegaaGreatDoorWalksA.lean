/- What the small functions under the statements of chapter 2 answer: isLetter, isDigit, goesOn, signLength, letter, digit, Pick, Few, Within, each at whatever memory; sums and comparisons of places. -/
import Derived.Test.YteaopephdjoegaaGreatDoorKp
import Derived.Test.YteaopephdjoegaaGreatDoorRows
import Derived.WalkKit
import Derived.WalkSpells
import Derived.WalkLawsBesides
import Derived.Test.YteaopephdjoegaaGreatDoorFloat
import Derived.Test.YteaopephdjoegaaGreatDoorLxA
namespace Go.Proofs.YteaopephdjoegaaGreatDoor
open Go.RowKit



theorem lower_def (c : UInt8) : Lx.lower c = (decide (97 ≤ (c.toNat : Int)) && decide ((c.toNat : Int) ≤ 122)) := rfl
theorem digit_def (c : UInt8) : Lx.digit c = (decide (48 ≤ (c.toNat : Int)) && decide ((c.toNat : Int) ≤ 57)) := rfl

set_option maxHeartbeats 400000 in
theorem isLetter_any (c : UInt8) (w : World) : Calls Tryz.prog 63 #[.int .u8 (c.toNat : Int)] w fun e w' => e = .returned (.bool (Lx.lower c)) ∧ w' = w := by
  have H : Hid (Lx.lower c = _) := lower_def c
  generalize (c.toNat : Int) = x at *
  by_cases h : 97 ≤ x
  · go_enter Tryz.func63, Tryz.ntmps63
    go_wp2
    go_ret
    exact ⟨ret_bool (by rw [H.out]; simp [h]), rfl⟩
  · have hd : decide (97 ≤ x) = false := decide_eq_false h
    go_enter Tryz.func63, Tryz.ntmps63
    go_wp2
    go_ret
    exact ⟨ret_bool (by rw [H.out, hd]; rfl), rfl⟩

set_option maxHeartbeats 400000 in
theorem isDigit_any (c : UInt8) (w : World) : Calls Tryz.prog 64 #[.int .u8 (c.toNat : Int)] w fun e w' => e = .returned (.bool (Lx.digit c)) ∧ w' = w := by
  have H : Hid (Lx.digit c = _) := digit_def c
  generalize (c.toNat : Int) = x at *
  by_cases h : 48 ≤ x
  · go_enter Tryz.func64, Tryz.ntmps64
    go_wp2
    go_ret
    exact ⟨ret_bool (by rw [H.out]; simp [h]), rfl⟩
  · have hd : decide (48 ≤ x) = false := decide_eq_false h
    go_enter Tryz.func64, Tryz.ntmps64
    go_wp2
    go_ret
    exact ⟨ret_bool (by rw [H.out, hd]; rfl), rfl⟩

theorem isLetter_at (c : UInt8) (r : Bool) (h : Lx.lower c = r) (w : World) : Calls Tryz.prog 63 #[.int .u8 (c.toNat : Int)] w fun e w' => e = .returned (.bool r) ∧ w' = w := h ▸ isLetter_any c w
theorem isDigit_at (c : UInt8) (r : Bool) (h : Lx.digit c = r) (w : World) : Calls Tryz.prog 64 #[.int .u8 (c.toNat : Int)] w fun e w' => e = .returned (.bool r) ∧ w' = w := h ▸ isDigit_any c w
set_option maxHeartbeats 400000 in
theorem goesOn_at (c : UInt8) (r : Bool) (h : Lx.goes c = r) (w : World) : Calls Tryz.prog 65 #[.int .u8 (c.toNat : Int)] w fun e w' => e = .returned (.bool r) ∧ w' = w := by
  have HG : Hid (Lx.goes c = r) := h
  clear h
  cases hl : Lx.lower c with
  | true =>
    have L : Hid (∀ w, _) := isLetter_at c true hl
    have HL : Hid (Lx.lower c = true) := hl
    clear hl
    go_enter Tryz.func65, Tryz.ntmps65
    go_wp2_with fail
    refine (L.out _).mono ?_
    rintro e w1 ⟨rfl, rfl⟩
    go_wp2
    go_ret
    exact ⟨ret_bool (by rw [← HG.out, Lx.goes, HL.out]; rfl), rfl⟩
  | false =>
    have L : Hid (∀ w, _) := isLetter_at c false hl
    have D : Hid (∀ w, _) := isDigit_any c
    have HL : Hid (Lx.lower c = false) := hl
    clear hl
    go_enter Tryz.func65, Tryz.ntmps65
    go_wp2_with fail
    refine (L.out _).mono ?_
    rintro e w1 ⟨rfl, rfl⟩
    go_wp2_with fail
    refine (D.out _).mono ?_
    rintro e w1 ⟨rfl, rfl⟩
    go_wp2
    go_ret
    exact ⟨ret_bool (by rw [← HG.out, Lx.goes, HL.out]; rfl), rfl⟩



set_option maxHeartbeats 400000 in
theorem pick_any (n m : Int) (w : World) (hm : 0 < m) (hm2 : m ≤ 4611686018427387904) :
    Calls Tryz.prog 16 #[.int .i64 n, .int .i64 m] w fun e w' => e = .returned (.int .i64 (n % m)) ∧ w' = w := by
  have e1 := tmod_pos n m hm
  obtain ⟨b1, b2⟩ := tmod_lt n m hm
  have H : Hid (n % m = if n.tmod m < 0 then n.tmod m + m else n.tmod m) := e1
  clear e1
  have hz : (m == 0) = false := by simp; omega
  go_enter Tryz.func16, Tryz.ntmps16
  go_wp2
  all_goals
    go_ret
    refine ⟨ret_int ?_, rfl⟩
    rw [H.out]
    first | rw [if_pos (by omega)] | rw [if_neg (by omega)]

theorem toList_extract (s : ByteArray) (k : Nat) : (s.extract 0 k).data.toList = s.data.toList.take k := by
  simp [ByteArray.data_extract]

theorem extract_all (s : ByteArray) (k : Nat) (h : s.size ≤ k) : s.extract 0 k = s := by
  apply ByteArray.ext
  apply Array.ext'
  rw [toList_extract, List.take_of_length_le (by simpa using h)]

end Go.Proofs.YteaopephdjoegaaGreatDoor
