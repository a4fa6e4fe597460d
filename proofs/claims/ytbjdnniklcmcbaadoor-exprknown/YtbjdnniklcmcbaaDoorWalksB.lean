/- What place.Of, Spot and Place, and lex.amount answer, at whatever memory. -/
import Derived.Test.YtbjdnniklcmcbaaDoorWalksA
import Derived.Test.YtbjdnniklcmcbaaDoorSpot
import Derived.Test.YtbjdnniklcmcbaaDoorShelf
import Derived.Lib.AtoiErrMem
namespace Go.Proofs.YtbjdnniklcmcbaaDoor
open Go.RowKit

theorem rung_of_int (n : Int) (h0 : 0 ≤ n) (h : n < 9007199254740992) : floatOfInt .f64 n = Fp.rung n.toNat := by
  obtain ⟨m, rfl⟩ := Int.eq_ofNat_of_zero_le h0
  rw [Int.toNat_natCast]
  exact Fp.floatOfInt_eq m (by omega)

theorem ret_cplx {a b : Int} {x y : Nat} (ha : a = x) (hb : b = y) (h1 : x < 9007199254740992) (h2 : y < 9007199254740992) :
    Ending.returned (.complex .f64 (floatOfInt .f64 a) (floatOfInt .f64 b)) = .returned (.complex .f64 (Fp.rung x) (Fp.rung y)) := by
  subst ha; subst hb
  rw [rung_of_int _ (by omega) (by omega), rung_of_int _ (by omega) (by omega)]
  rfl

/-- at, brought within 0 to n. -/
def clampAt (a : Int) (n : Nat) : Nat := (min (max a 0) (n : Int)).toNat
theorem clamp_in (k n : Nat) (h : k ≤ n) : clampAt (k : Int) n = k := by unfold clampAt; omega

/-- The place of byte k, as words. -/
def lineW (s : ByteArray) (k : Nat) : Nat := Fp.rung (Sp.spot (s.data.toList.take k)).1
def colW (s : ByteArray) (k : Nat) : Nat := Fp.rung (Sp.spot (s.data.toList.take k)).2

set_option maxHeartbeats 400000 in
theorem of_any (s : ByteArray) (a : Int) (w : World) (hs : s.size ≤ 1125899906842624) :
    Calls Tryd.prog 20 #[.string s, .int .i64 a] w fun e w' => e = .returned (.complex .f64 (lineW s (clampAt a s.size)) (colW s (clampAt a s.size))) ∧ w' = w := by
  obtain ⟨k, hk⟩ : ∃ k : Nat, clampAt a s.size = k := ⟨_, rfl⟩
  rw [hk]
  unfold lineW colW
  have hkl : k ≤ s.size := by unfold clampAt at hk; omega
  have hsz : (s.extract 0 k).size = k := by rw [ByteArray.size_extract]; omega
  have hsp := Sp.spot_le (s.data.toList.take k)
  have hlen : (s.data.toList.take k).length ≤ k := List.length_take_le _ _
  have c1 := Sp.spot_line (s.data.toList.take k)
  have c2 := Sp.spot_col (s.extract 0 k)
  rw [toList_extract, hsz] at c2
  have p1 := Sp.line_pos (s.data.toList.take k)
  have p2 := Sp.col_pos (s.data.toList.take k)
  have hC : Hid (∀ w, Calls Tryd.prog 26 #[.string (s.extract 0 k), .string ⟨#[10]⟩] w fun e w' => e = .returned (.int .i64 (Lib.countByte (s.data.toList.take k) 10)) ∧ w' = w) := by
    intro w
    have := Tryd.strings_Count_one (s.extract 0 k) 10 w
    rwa [toList_extract] at this
  have hL : Hid (∀ w, Calls Tryd.prog 27 #[.string (s.extract 0 k), .int .u8 10] w fun e w' => e = .returned (.int .i64 (Lib.lastIndexByte (s.extract 0 k) 10)) ∧ w' = w) := by
    intro w
    exact Tryd.strings_LastIndexByte (s.extract 0 k) 10 (by omega) w
  generalize hP : Sp.spot (s.data.toList.take k) = p at *
  have HP := hP; clear hP
  generalize Lib.countByte (s.data.toList.take k) 10 = c at *
  generalize Lib.lastIndexByte (s.extract 0 k) 10 = L at *
  have Hc1 : Hid (p.1 = 1 + c) := c1
  have Hc2 : Hid ((p.2 : Int) = (k : Int) - L) := c2
  have b1 : (c : Int) ≤ 1125899906842624 := by omega
  have b2 : L ≤ (k : Int) := by omega
  have b3 : -1125899906842626 ≤ L := by omega
  have b4 : (k : Int) ≤ 1125899906842624 := by omega
  have B1 : Hid (p.1 < 9007199254740992) := by show p.1 < _; omega
  have B2 : Hid (p.2 < 9007199254740992) := by show p.2 < _; omega
  clear c1 c2 HP hsz hsp hlen p1 p2
  have hk2 : min (max a 0) (s.size : Int) = (k : Int) := by unfold clampAt at hk; omega
  clear hk
  go_enter Tryd.func20, Tryd.ntmps20
  go_wp2_with (first | (go_at_call 26; refine (hC.out _).mono ?_; rintro e w' ⟨rfl, rfl⟩) | (go_at_call 27; refine (hL.out _).mono ?_; rintro e w' ⟨rfl, rfl⟩))
  go_ret
  exact ⟨ret_cplx (by rw [Hc1.out]; omega) (by rw [Hc2.out]) B1.out B2.out, rfl⟩

theorem of_in (s : ByteArray) (k : Nat) (hs : s.size ≤ 1125899906842624) (hk : k ≤ s.size) (w : World) :
    Calls Tryd.prog 20 #[.string s, .int .i64 (k : Int)] w fun e w' => e = .returned (.complex .f64 (lineW s k) (colW s k)) ∧ w' = w := by
  have := of_any s k w hs
  rwa [clamp_in k _ hk] at this

theorem one_rung : (4607182418800017408 : Nat) = Fp.rung 1 := by decide +kernel
theorem zero_rung : (0 : Nat) = Fp.rung 0 := by decide +kernel

theorem first_words (s : ByteArray) : lineW s 0 = 4607182418800017408 ∧ colW s 0 = 4607182418800017408 := by
  unfold lineW colW
  rw [List.take_zero, Sp.spot_nil]
  exact ⟨one_rung.symm, one_rung.symm⟩

/-- The variable ErrRange holds an error, or nil. -/
def Er (w : World) : Prop := ∃ ev, w.cell? ⟨2, 0, none⟩ = some ev ∧ (ev = .nilIface ∨ ∃ te pe, ev = .iface te pe)

theorem Er.kept {w w' : World} (h : Er w) (k : Kept w w') : Er w' := by
  obtain ⟨ev, h1, h2⟩ := h
  exact ⟨ev, (k.cell (World.block_lt_of_cell? w _ h1)).trans h1, h2⟩

theorem kept_bytes (w : World) (t : TypeId) (s : ByteArray) : Kept w (Lib.bytesWorld w t s) := by
  exact Lib.bytesWorld_below w t s

theorem parse_ok (d : ByteArray) (v : Nat) (hd : ∀ c ∈ d.data.toList, Lx.digit c = true) (hne : d.data.toList ≠ []) (hs : d.size ≤ 281474976710656) (hv : Lx.val d.data.toList = v) (hlt : v < 9223372036854775808) (w : World) :
    Calls Tryd.prog 42 #[.string d, .int .i64 10, .int .i64 64] w fun e w' => e = .returned (.tuple #[.int .i64 (v : Int), .nilIface]) ∧ Kept w w' := by
  have hp := Lx.parse_digits d.data.toList hne hd
  rw [hv, if_pos hlt] at hp
  refine (Tryd.strconv_ParseInt_10_at64_ok d (by omega) v hp w).mono ?_
  rintro e w' ⟨rfl, h⟩
  refine ⟨rfl, ?_⟩
  rcases h with rfl | ⟨t, rfl⟩
  · exact Kept.refl _
  · exact kept_bytes _ _ _

theorem parse_range (d : ByteArray) (hd : ∀ c ∈ d.data.toList, Lx.digit c = true) (hne : d.data.toList ≠ []) (hs : d.size ≤ 281474976710656) (hge : ¬ Lx.val d.data.toList < 9223372036854775808) (w : World) (he : Er w) :
    Calls Tryd.prog 42 #[.string d, .int .i64 10, .int .i64 64] w fun e w' => ∃ n N, e = .returned (.tuple #[.int .i64 n, .iface 85 (.pointer (some ⟨N, 0, none⟩))]) ∧ Kept w w' := by
  have hp := Lx.parse_digits d.data.toList hne hd
  rw [if_neg hge] at hp
  obtain ⟨ev, h1, h2⟩ := he
  refine (Tryd.strconv_ParseInt_10_at64_range d hs hp ev w h1 h2).mono ?_
  rintro e w' ⟨N, rfl, _, _, hb⟩
  exact ⟨_, N, rfl, hb⟩

theorem head_byte (d : ByteArray) (h : 0 < d.size) : d.data.toList.head? = some d[0] := by
  have : 0 < d.data.toList.length := by simpa using h
  rw [List.head?_eq_getElem?, List.getElem?_eq_getElem this, Array.getElem_toList]
  rfl

set_option maxHeartbeats 1000000 in
theorem amount_zero (d : ByteArray) (w : World) (h1 : 1 < d.size) (h0 : d[0]'(by omega) = 48) (hs : d.size ≤ 6000) :
    Calls Tryd.prog 31 #[.string d] w fun e w' => e = .returned (.tuple #[.int .i64 0, .bool false]) ∧ w' = w := by
  have hb : (((d[0]'(by omega)).toNat : Int) == 48) = true := by rw [h0]; rfl
  have hl : (1 : Int) < (d.size : Int) := by omega
  clear h0
  go_enter Tryd.func31, Tryd.ntmps31
  go_wp2
  go_ret2
  exact ⟨rfl, rfl⟩

set_option maxHeartbeats 1000000 in
theorem amount_ok (d : ByteArray) (v : Nat) (w : World) (hs : d.size ≤ 6000) (_hv : v < 9223372036854775808)
    (hP : Hid (∀ w, Calls Tryd.prog 42 #[.string d, .int .i64 10, .int .i64 64] w fun e w' => e = .returned (.tuple #[.int .i64 (v : Int), .nilIface]) ∧ Kept w w'))
    (hz : d.size ≤ 1 ∨ ∃ h : 1 < d.size, d[0]'(by omega) ≠ 48) :
    Calls Tryd.prog 31 #[.string d] w fun e w' => e = .returned (.tuple #[.int .i64 (v : Int), .bool true]) ∧ Kept w w' := by
  rcases hz with hz | ⟨h1, h0⟩
  · have hl : decide ((1 : Int) < (d.size : Int)) = false := decide_eq_false (by omega)
    clear hz
    go_enter Tryd.func31, Tryd.ntmps31
    go_wp2_with fail
    refine (hP.out _).mono ?_
    rintro e w1 ⟨rfl, q⟩
    have Q : Hid (Kept _ _) := q
    clear q
    go_wp2
    go_ret2
    exact ⟨rfl, Q.out⟩
  · have hb : (((d[0]'(by omega)).toNat : Int) == 48) = false := by
      rw [beq_eq_false_iff_ne]; intro e; apply h0; apply UInt8.toNat_inj.1; show _ = 48; omega
    have hl : (1 : Int) < (d.size : Int) := by omega
    clear h0
    go_enter Tryd.func31, Tryd.ntmps31
    go_wp2_with fail
    refine (hP.out _).mono ?_
    rintro e w1 ⟨rfl, q⟩
    have Q : Hid (Kept _ _) := q
    clear q
    go_wp2
    go_ret2
    exact ⟨rfl, Q.out⟩

set_option maxHeartbeats 1000000 in
theorem amount_big (d : ByteArray) (w : World) (hs : d.size ≤ 6000) (he : Er w)
    (hP : Hid (∀ w, Er w → Calls Tryd.prog 42 #[.string d, .int .i64 10, .int .i64 64] w fun e w' => ∃ n N, e = .returned (.tuple #[.int .i64 n, .iface 85 (.pointer (some ⟨N, 0, none⟩))]) ∧ Kept w w'))
    (hz : d.size ≤ 1 ∨ ∃ h : 1 < d.size, d[0]'(by omega) ≠ 48) :
    Calls Tryd.prog 31 #[.string d] w fun e w' => e = .returned (.tuple #[.int .i64 0, .bool false]) ∧ Kept w w' := by
  have HE : Hid (Er w) := he
  clear he
  rcases hz with hz | ⟨h1, h0⟩
  · have hl : decide ((1 : Int) < (d.size : Int)) = false := decide_eq_false (by omega)
    clear hz
    go_enter Tryd.func31, Tryd.ntmps31
    go_wp2_with fail
    refine (hP.out _ HE.out).mono ?_
    rintro e w1 ⟨n, N, rfl, q⟩
    have Q : Hid (Kept _ _) := q
    clear q
    go_wp2
    go_ret2
    exact ⟨rfl, Q.out⟩
  · have hb : (((d[0]'(by omega)).toNat : Int) == 48) = false := by
      rw [beq_eq_false_iff_ne]; intro e; apply h0; apply UInt8.toNat_inj.1; show _ = 48; omega
    have hl : (1 : Int) < (d.size : Int) := by omega
    clear h0
    go_enter Tryd.func31, Tryd.ntmps31
    go_wp2_with fail
    refine (hP.out _ HE.out).mono ?_
    rintro e w1 ⟨n, N, rfl, q⟩
    have Q : Hid (Kept _ _) := q
    clear q
    go_wp2
    go_ret2
    exact ⟨rfl, Q.out⟩

theorem amount_any (d : ByteArray) (o : Option Nat) (hd : ∀ c ∈ d.data.toList, Lx.digit c = true) (hne : d.data.toList ≠ []) (hs : d.size ≤ 6000) (ho : Lx.num d.data.toList = o) (w : World) (he : Er w) :
    Calls Tryd.prog 31 #[.string d] w fun e w' => e = .returned (.tuple #[.int .i64 ((o.getD 0 : Nat) : Int), .bool o.isSome]) ∧ Kept w w' := by
  subst ho
  have hlen : d.data.toList.length = d.size := by simp
  unfold Lx.num
  by_cases h1 : 1 < d.size
  · by_cases h0 : d[0]'(by omega) = 48
    · rw [if_pos ⟨by omega, by rw [head_byte d (by omega), h0]⟩]
      exact (amount_zero d w h1 h0 hs).mono fun e w' ⟨a, b⟩ => ⟨a, by rw [b]; exact Kept.refl _⟩
    · rw [if_neg (by rw [head_byte d (by omega)]; simp [h0])]
      by_cases hv : Lx.val d.data.toList < 9223372036854775808
      · rw [if_pos hv]
        exact amount_ok d _ w hs hv (fun w => parse_ok d _ hd hne (by omega) rfl hv w) (.inr ⟨h1, h0⟩)
      · rw [if_neg hv]
        exact amount_big d w hs he (fun w he => parse_range d hd hne (by omega) hv w he) (.inr ⟨h1, h0⟩)
  · rw [if_neg (by omega)]
    by_cases hv : Lx.val d.data.toList < 9223372036854775808
    · rw [if_pos hv]
      exact amount_ok d _ w hs hv (fun w => parse_ok d _ hd hne (by omega) rfl hv w) (.inl (by omega))
    · rw [if_neg hv]
      exact amount_big d w hs he (fun w he => parse_range d hd hne (by omega) hv w he) (.inl (by omega))

end Go.Proofs.YtbjdnniklcmcbaaDoor
