/- What Of, Back, Spot and Print of the program answer, at whatever memory and whatever text of at most 2^48 bytes. -/
import Derived.Test.YthkooeohhgpkcaaDoorWalksA
import Derived.Test.YthkooeohhgpkcaaDoorSpot
import Derived.Test.YthkooeohhgpkcaaDoorShelf
namespace Go.Proofs.YthkooeohhgpkcaaDoor
open Go.RowKit

/-- A place as the program holds it. -/
def cplx (p : Nat × Nat) : Value := .complex .f64 (Fp.rung p.1) (Fp.rung p.2)

theorem rung_of_int (n : Int) (h0 : 0 ≤ n) (h : n < 9007199254740992) : floatOfInt .f64 n = Fp.rung n.toNat := by
  obtain ⟨m, rfl⟩ := Int.eq_ofNat_of_zero_le h0
  rw [Int.toNat_natCast]
  exact Fp.floatOfInt_eq m (by omega)

theorem ret_cplx {a b : Int} {p : Nat × Nat} (ha : a = p.1) (hb : b = p.2) (h1 : p.1 < 9007199254740992) (h2 : p.2 < 9007199254740992) :
    Ending.returned (.complex .f64 (floatOfInt .f64 a) (floatOfInt .f64 b)) = .returned (cplx p) := by
  subst ha; subst hb
  rw [rung_of_int _ (by omega) (by omega), rung_of_int _ (by omega) (by omega)]
  rfl

/-- at, brought within 0 to n. -/
def clampAt (a : Int) (n : Nat) : Nat := (min (max a 0) (n : Int)).toNat

set_option maxHeartbeats 400000 in
theorem of_any (s : ByteArray) (a : Int) (w : World) (hs : s.size ≤ 281474976710656) :
    Calls Tryd.prog 11 #[.string s, .int .i64 a] w fun e w' => e = .returned (cplx (Sp.spot (s.data.toList.take (clampAt a s.size)))) ∧ w' = w := by
  obtain ⟨k, hk⟩ : ∃ k : Nat, clampAt a s.size = k := ⟨_, rfl⟩
  rw [hk]
  have hkl : k ≤ s.size := by unfold clampAt at hk; omega
  have hsz : (s.extract 0 k).size = k := by rw [ByteArray.size_extract]; omega
  have hsp := Sp.spot_le (s.data.toList.take k)
  have hlen : (s.data.toList.take k).length ≤ k := List.length_take_le _ _
  have c1 := Sp.spot_line (s.data.toList.take k)
  have c2 := Sp.spot_col (s.extract 0 k)
  rw [toList_extract, hsz] at c2
  have p1 := Sp.line_pos (s.data.toList.take k)
  have p2 := Sp.col_pos (s.data.toList.take k)
  have hC : Hid (∀ w, Calls Tryd.prog 19 #[.string (s.extract 0 k), .string ⟨#[10]⟩] w fun e w' => e = .returned (.int .i64 (Lib.countByte (s.data.toList.take k) 10)) ∧ w' = w) := by
    intro w
    have := Tryd.strings_Count_one (s.extract 0 k) 10 w
    rwa [toList_extract] at this
  have hL : Hid (∀ w, Calls Tryd.prog 20 #[.string (s.extract 0 k), .int .u8 10] w fun e w' => e = .returned (.int .i64 (Lib.lastIndexByte (s.extract 0 k) 10)) ∧ w' = w) := by
    intro w
    exact Tryd.strings_LastIndexByte (s.extract 0 k) 10 (by omega) w
  generalize hP : Sp.spot (s.data.toList.take k) = p at *
  have HP := hP; clear hP
  generalize Lib.countByte (s.data.toList.take k) 10 = c at *
  generalize Lib.lastIndexByte (s.extract 0 k) 10 = L at *
  have Hc1 : Hid (p.1 = 1 + c) := c1
  have Hc2 : Hid ((p.2 : Int) = (k : Int) - L) := c2
  have b1 : (c : Int) ≤ 281474976710656 := by omega
  have b2 : L ≤ (k : Int) := by omega
  have b3 : -281474976710658 ≤ L := by omega
  have b4 : (k : Int) ≤ 281474976710656 := by omega
  have B1 : Hid (p.1 < 9007199254740992) := by show p.1 < _; omega
  have B2 : Hid (p.2 < 9007199254740992) := by show p.2 < _; omega
  clear c1 c2 HP hsz hsp hlen p1 p2
  have hk2 : min (max a 0) (s.size : Int) = (k : Int) := by unfold clampAt at hk; omega
  clear hk
  go_enter Tryd.func11, Tryd.ntmps11
  go_wp2_with (first | (go_at_call 19; refine (hC.out _).mono ?_; rintro e w' ⟨rfl, rfl⟩) | (go_at_call 20; refine (hL.out _).mono ?_; rintro e w' ⟨rfl, rfl⟩))
  go_ret
  exact ⟨ret_cplx (by rw [Hc1.out]; omega) (by rw [Hc2.out]) B1.out B2.out, rfl⟩

theorem one_rung : (4607182418800017408 : Nat) = Fp.rung 1 := by decide +kernel
theorem zero_rung : (0 : Nat) = Fp.rung 0 := by decide +kernel

theorem next_any (p : Nat × Nat) (c : UInt8) (w : World) (h1 : p.1 < 9007199254740991) (h2 : p.2 < 9007199254740991) :
    Calls Tryd.prog 18 #[.complex .f64 (Fp.rung p.1) (Fp.rung p.2), .int .u8 (c.toNat : Int)] w fun e w' => e = .returned (.complex .f64 (Fp.rung (Sp.on p c).1) (Fp.rung (Sp.on p c).2)) ∧ w' = w := by
  have r1 := Fp.rep_rung p.1 (by omega)
  have r2 := Fp.rep_rung p.2 (by omega)
  have o1 := Fp.rep_rung 1 (by decide)
  have o0 := Fp.rep_rung 0 (by decide)
  by_cases hc : c = 10
  · subst hc
    have e1 := Fp.add_rep r1 o1 (by omega)
    rw [← one_rung] at e1
    have := next_feed (Fp.rung p.1) (Fp.rung p.2) _ w e1
    rw [one_rung] at this
    simpa [Sp.on] using this
  · have e1 := Fp.add_rep r1 o0 (by omega)
    have e2 := Fp.add_rep r2 o1 (by omega)
    rw [← zero_rung] at e1
    rw [← one_rung] at e2
    have hb : ((c.toNat : Int) == 10) = false := by
      rw [beq_eq_false_iff_ne]; intro e; apply hc; apply UInt8.toNat_inj.1; show _ = 10; omega
    have := next_on (Fp.rung p.1) (Fp.rung p.2) _ _ (c.toNat : Int) w hb e1 e2
    simpa [Sp.on, hc] using this

/-- Do two complex numbers compare equal? -/
def same (a b c d : Nat) : Bool := (Ieee.double.order a c == some .eq) && (Ieee.double.order b d == some .eq)

theorem run_same {P : Program} (w : World) (t : TypeId) (a b c d : Nat) : (binOp .eql t (.complex .f64 a b) (.complex .f64 c d)).run P w = .ok (.bool (same a b c d)) w := run_eql_complex w t .f64 a b c d

/-- The place of byte k, as words. -/
def lineW (s : ByteArray) (k : Nat) : Nat := Fp.rung (Sp.spot (s.data.toList.take k)).1
def colW (s : ByteArray) (k : Nat) : Nat := Fp.rung (Sp.spot (s.data.toList.take k)).2

theorem next_at (s : ByteArray) (k : Nat) (hk : k < s.size) (hs : s.size ≤ 281474976710656) (w : World) :
    Calls Tryd.prog 18 #[.complex .f64 (lineW s k) (colW s k), .int .u8 ((s[k]).toNat : Int)] w fun e w' => e = .returned (.complex .f64 (lineW s (k + 1)) (colW s (k + 1))) ∧ w' = w := by
  have hl : k < s.data.toList.length := by simpa using hk
  have e := Sp.spot_succ s.data.toList k hl
  have e2 : s.data.toList[k] = s[k] := by rw [Array.getElem_toList]; rfl
  rw [e2] at e
  unfold lineW colW
  rw [e]
  have hsp := Sp.spot_le (s.data.toList.take k)
  have hlen : (s.data.toList.take k).length ≤ k := List.length_take_le _ _
  have p1 := Sp.line_pos (s.data.toList.take k)
  have p2 := Sp.col_pos (s.data.toList.take k)
  exact next_any _ _ w (by omega) (by omega)

theorem first_words (s : ByteArray) : lineW s 0 = 4607182418800017408 ∧ colW s 0 = 4607182418800017408 := by
  unfold lineW colW
  rw [List.take_zero, Sp.spot_nil]
  exact ⟨one_rung.symm, one_rung.symm⟩

set_option maxHeartbeats 400000 in
theorem back_hit (s : ByteArray) (x y n : Nat) (w : World) (hs : s.size ≤ 281474976710656) (hn : n ≤ s.size) (hit : same (lineW s n) (colW s n) x y = true) (miss : ∀ j, j < n → same (lineW s j) (colW s j) x y = false) :
    Calls Tryd.prog 9 #[.string s, .complex .f64 x y] w fun e w' => e = .returned (.tuple #[.int .i64 n, .bool true]) ∧ w' = w := by
  have HH : Hid (same (lineW s n) (colW s n) x y = true) := hit
  have HM : Hid (∀ j, j < n → same (lineW s j) (colW s j) x y = false) := miss
  obtain ⟨f1, f2⟩ := first_words s
  have F1 : Hid (lineW s 0 = 4607182418800017408) := f1
  have F2 : Hid (colW s 0 = 4607182418800017408) := f2
  clear hit miss f1 f2
  go_enter Tryd.func9, Tryd.ntmps9
  go_wp2
  go_loop [6, 10] (fun h i => ∃ k : Nat, k ≤ n ∧ i = .int .i64 k ∧ h = .complex .f64 (lineW s k) (colW s k)) (fun _ i => s.size - (intOf i).toNat)
  case atStart => exact ⟨0, Nat.zero_le _, rfl, by rw [F1.out, F2.out]⟩
  case round =>
    obtain ⟨k, hk, rfl, rfl⟩ := hrel
    by_cases hlt : k < s.size
    · by_cases hkn : k = n
      · subst hkn
        have hE : ∀ w, (binOp .eql 24 (.complex .f64 (lineW s k) (colW s k)) (.complex .f64 x y)).run Tryd.prog w = .ok (.bool true) w := fun w => by rw [run_same, HH.out]
        go_wp2
        go_ret2
        exact ⟨rfl, rfl⟩
      · have hE : ∀ w, (binOp .eql 24 (.complex .f64 (lineW s k) (colW s k)) (.complex .f64 x y)).run Tryd.prog w = .ok (.bool false) w := fun w => by rw [run_same, HM.out k (by omega)]
        have hN : Hid (∀ w, _) := next_at s k hlt hs
        go_wp2_with (go_at_call 18; refine (hN.out _).mono ?_; rintro e w' ⟨rfl, rfl⟩)
        go_round
        case rel => exact ⟨k + 1, by omega, by go_num, rfl⟩
        case measure => simp [intOf]; omega
    · have hkn : k = n := by omega
      subst hkn
      have hks : k = s.size := by omega
      have hE : ∀ w, (binOp .eql 24 (.complex .f64 (lineW s k) (colW s k)) (.complex .f64 x y)).run Tryd.prog w = .ok (.bool true) w := fun w => by rw [run_same, HH.out]
      have HK : Hid (k = s.size) := hks
      clear hks
      go_wp2
      go_ret2
      exact ⟨by rw [HK.out]; rfl, rfl⟩

set_option maxHeartbeats 400000 in
theorem back_miss (s : ByteArray) (x y : Nat) (w : World) (hs : s.size ≤ 281474976710656) (miss : ∀ j, j ≤ s.size → same (lineW s j) (colW s j) x y = false) :
    Calls Tryd.prog 9 #[.string s, .complex .f64 x y] w fun e w' => e = .returned (.tuple #[.int .i64 0, .bool false]) ∧ w' = w := by
  have HM : Hid (∀ j, j ≤ s.size → same (lineW s j) (colW s j) x y = false) := miss
  obtain ⟨f1, f2⟩ := first_words s
  have F1 : Hid (lineW s 0 = 4607182418800017408) := f1
  have F2 : Hid (colW s 0 = 4607182418800017408) := f2
  clear miss f1 f2
  go_enter Tryd.func9, Tryd.ntmps9
  go_wp2
  go_loop [6, 10] (fun h i => ∃ k : Nat, k ≤ s.size ∧ i = .int .i64 k ∧ h = .complex .f64 (lineW s k) (colW s k)) (fun _ i => s.size - (intOf i).toNat)
  case atStart => exact ⟨0, Nat.zero_le _, rfl, by rw [F1.out, F2.out]⟩
  case round =>
    obtain ⟨k, hk, rfl, rfl⟩ := hrel
    have hE : ∀ w, (binOp .eql 24 (.complex .f64 (lineW s k) (colW s k)) (.complex .f64 x y)).run Tryd.prog w = .ok (.bool false) w := fun w => by rw [run_same, HM.out k (by omega)]
    by_cases hlt : k < s.size
    · have hN : Hid (∀ w, _) := next_at s k hlt hs
      go_wp2_with (go_at_call 18; refine (hN.out _).mono ?_; rintro e w' ⟨rfl, rfl⟩)
      go_round
      case rel => exact ⟨k + 1, by omega, by go_num, rfl⟩
      case measure => simp [intOf]; omega
    · go_wp2
      go_ret2
      exact ⟨rfl, rfl⟩

end Go.Proofs.YthkooeohhgpkcaaDoor
