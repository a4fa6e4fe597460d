/- What place.Of, Spot and Place, and lex.amount answer, at whatever memory. What lex.signLength answers, at whatever memory. -/
import Derived.Test.YtkobdephobaopaaGreatDoorWkA
import Derived.Test.YtkobdephobaopaaGreatDoorShelf
import Derived.Lib.AtoiErrMem

namespace Go.Proofs.YtkobdephobaopaaGreatDoor
open Go.RowKit

theorem rung_of_int (n : Int) (h0 : 0 ≤ n) (h : n < 9007199254740992) : floatOfInt .f64 n = Fp.rung n.toNat := by
  obtain ⟨m, rfl⟩ := Int.eq_ofNat_of_zero_le h0
  rw [Int.toNat_natCast]
  exact Fp.floatOfInt_eq m (by omega)

theorem ret_cplx {a b : Int} {x y : Nat} (ha : a = x) (hb : b = y) (h1 : x < 9007199254740992) (h2 : y < 9007199254740992) :
    Ending.returned (.complex .f64 (floatOfInt .f64 a) (floatOfInt .f64 b)) = .returned (.complex .f64 (Fp.rung x) (Fp.rung y)) := by
  subst ha; subst hb
  rw [rung_of_int _ (by omega) (by omega), rung_of_int _ (by omega) (by omega)]
  rfl

/-- at, brought within 0 to n. -/
def clampAt (a : Int) (n : Nat) : Nat := (min (max a 0) (n : Int)).toNat
theorem clamp_in (k n : Nat) (h : k ≤ n) : clampAt (k : Int) n = k := by unfold clampAt; omega

/-- The place of byte k, as words. -/
def lineW (s : ByteArray) (k : Nat) : Nat := Fp.rung (Sp.spot (s.data.toList.take k)).1
def colW (s : ByteArray) (k : Nat) : Nat := Fp.rung (Sp.spot (s.data.toList.take k)).2

set_option maxHeartbeats 400000 in
theorem of_any (s : ByteArray) (a : Int) (w : World) (hs : s.size ≤ 1125899906842624) :
    Calls Tryz.prog 51 #[.string s, .int .i64 a] w fun e w' => e = .returned (.complex .f64 (lineW s (clampAt a s.size)) (colW s (clampAt a s.size))) ∧ w' = w := by
  obtain ⟨k, hk⟩ : ∃ k : Nat, clampAt a s.size = k := ⟨_, rfl⟩
  rw [hk]
  unfold lineW colW
  have hkl : k ≤ s.size := by unfold clampAt at hk; omega
  have hsz : (s.extract 0 k).size = k := by rw [ByteArray.size_extract]; omega
  have hsp := Sp.spot_le (s.data.toList.take k)
  have hlen : (s.data.toList.take k).length ≤ k := List.length_take_le _ _
  have c1 := Sp.spot_line (s.data.toList.take k)
  have c2 := Sp.spot_col (s.extract 0 k)
  rw [toList_extract, hsz] at c2
  have p1 := Sp.line_pos (s.data.toList.take k)
  have p2 := Sp.col_pos (s.data.toList.take k)
  have hC : Hid (∀ w, Calls Tryz.prog 80 #[.string (s.extract 0 k), .string ⟨#[10]⟩] w fun e w' => e = .returned (.int .i64 (Lib.countByte (s.data.toList.take k) 10)) ∧ w' = w) := by
    intro w
    have := Tryz.strings_Count_one (s.extract 0 k) 10 w
    rwa [toList_extract] at this
  have hL : Hid (∀ w, Calls Tryz.prog 81 #[.string (s.extract 0 k), .int .u8 10] w fun e w' => e = .returned (.int .i64 (Lib.lastIndexByte (s.extract 0 k) 10)) ∧ w' = w) := by
    intro w
    exact Tryz.strings_LastIndexByte (s.extract 0 k) 10 (by omega) w
  generalize hP : Sp.spot (s.data.toList.take k) = p at *
  have HP := hP; clear hP
  generalize Lib.countByte (s.data.toList.take k) 10 = c at *
  generalize Lib.lastIndexByte (s.extract 0 k) 10 = L at *
  have Hc1 : Hid (p.1 = 1 + c) := c1
  have Hc2 : Hid ((p.2 : Int) = (k : Int) - L) := c2
  have b1 : (c : Int) ≤ 1125899906842624 := by omega
  have b2 : L ≤ (k : Int) := by omega
  have b3 : -1125899906842626 ≤ L := by omega
  have b4 : (k : Int) ≤ 1125899906842624 := by omega
  have B1 : Hid (p.1 < 9007199254740992) := by show p.1 < _; omega
  have B2 : Hid (p.2 < 9007199254740992) := by show p.2 < _; omega
  clear c1 c2 HP hsz hsp hlen p1 p2
  have hk2 : min (max a 0) (s.size : Int) = (k : Int) := by unfold clampAt at hk; omega
  clear hk
  go_enter Tryz.func51, Tryz.ntmps51
  go_wp2_with (first | (go_at_call 80; refine (hC.out _).mono ?_; rintro e w' ⟨rfl, rfl⟩) | (go_at_call 81; refine (hL.out _).mono ?_; rintro e w' ⟨rfl, rfl⟩))
  go_ret
  exact ⟨ret_cplx (by rw [Hc1.out]; omega) (by rw [Hc2.out]) B1.out B2.out, rfl⟩

theorem of_in (s : ByteArray) (k : Nat) (hs : s.size ≤ 1125899906842624) (hk : k ≤ s.size) (w : World) :
    Calls Tryz.prog 51 #[.string s, .int .i64 (k : Int)] w fun e w' => e = .returned (.complex .f64 (lineW s k) (colW s k)) ∧ w' = w := by
  have := of_any s k w hs
  rwa [clamp_in k _ hk] at this

theorem one_rung : (4607182418800017408 : Nat) = Fp.rung 1 := by decide +kernel
theorem zero_rung : (0 : Nat) = Fp.rung 0 := by decide +kernel

theorem first_words (s : ByteArray) : lineW s 0 = 4607182418800017408 ∧ colW s 0 = 4607182418800017408 := by
  unfold lineW colW
  rw [List.take_zero, Sp.spot_nil]
  exact ⟨one_rung.symm, one_rung.symm⟩

/-- The variable ErrRange holds an error, or nil. -/
def Er (w : World) : Prop := ∃ ev, w.cell? ⟨2, 0, none⟩ = some ev ∧ (ev = .nilIface ∨ ∃ te pe, ev = .iface te pe)

theorem Er.kept {w w' : World} (h : Er w) (k : Kept w w') : Er w' := by
  obtain ⟨ev, h1, h2⟩ := h
  exact ⟨ev, (k.cell (World.block_lt_of_cell? w _ h1)).trans h1, h2⟩

theorem kept_bytes (w : World) (t : TypeId) (s : ByteArray) : Kept w (Lib.bytesWorld w t s) := by
  exact Lib.bytesWorld_below w t s

theorem parse_ok (d : ByteArray) (v : Nat) (hd : ∀ c ∈ d.data.toList, Lx.digit c = true) (hne : d.data.toList ≠ []) (hs : d.size ≤ 281474976710656) (hv : Lx.val d.data.toList = v) (hlt : v < 9223372036854775808) (w : World) :
    Calls Tryz.prog 108 #[.string d, .int .i64 10, .int .i64 64] w fun e w' => e = .returned (.tuple #[.int .i64 (v : Int), .nilIface]) ∧ Kept w w' := by
  have hp := Lx.parse_digits d.data.toList hne hd
  rw [hv, if_pos hlt] at hp
  refine (Tryz.strconv_ParseInt_10_at64_ok d (by omega) v hp w).mono ?_
  rintro e w' ⟨rfl, h⟩
  refine ⟨rfl, ?_⟩
  rcases h with rfl | ⟨t, rfl⟩
  · exact Kept.refl _
  · exact kept_bytes _ _ _

theorem parse_range (d : ByteArray) (hd : ∀ c ∈ d.data.toList, Lx.digit c = true) (hne : d.data.toList ≠ []) (hs : d.size ≤ 281474976710656) (hge : ¬ Lx.val d.data.toList < 9223372036854775808) (w : World) (he : Er w) :
    Calls Tryz.prog 108 #[.string d, .int .i64 10, .int .i64 64] w fun e w' => ∃ n N, e = .returned (.tuple #[.int .i64 n, .iface 174 (.pointer (some ⟨N, 0, none⟩))]) ∧ Kept w w' := by
  have hp := Lx.parse_digits d.data.toList hne hd
  rw [if_neg hge] at hp
  obtain ⟨ev, h1, h2⟩ := he
  refine (Tryz.strconv_ParseInt_10_at64_range d hs hp ev w h1 h2).mono ?_
  rintro e w' ⟨N, rfl, _, _, hb⟩
  exact ⟨_, N, rfl, hb⟩

theorem head_byte (d : ByteArray) (h : 0 < d.size) : d.data.toList.head? = some d[0] := by
  have : 0 < d.data.toList.length := by simpa using h
  rw [List.head?_eq_getElem?, List.getElem?_eq_getElem this, Array.getElem_toList]
  rfl

set_option maxHeartbeats 1000000 in
theorem amount_zero (d : ByteArray) (w : World) (h1 : 1 < d.size) (h0 : d[0]'(by omega) = 48) (hs : d.size ≤ 6000) :
    Calls Tryz.prog 85 #[.string d] w fun e w' => e = .returned (.tuple #[.int .i64 0, .bool false]) ∧ w' = w := by
  have hb : (((d[0]'(by omega)).toNat : Int) == 48) = true := by rw [h0]; rfl
  have hl : (1 : Int) < (d.size : Int) := by omega
  clear h0
  go_enter Tryz.func85, Tryz.ntmps85
  go_wp2
  go_ret2
  exact ⟨rfl, rfl⟩

set_option maxHeartbeats 1000000 in
theorem amount_ok (d : ByteArray) (v : Nat) (w : World) (hs : d.size ≤ 6000) (_hv : v < 9223372036854775808)
    (hP : Hid (∀ w, Calls Tryz.prog 108 #[.string d, .int .i64 10, .int .i64 64] w fun e w' => e = .returned (.tuple #[.int .i64 (v : Int), .nilIface]) ∧ Kept w w'))
    (hz : d.size ≤ 1 ∨ ∃ h : 1 < d.size, d[0]'(by omega) ≠ 48) :
    Calls Tryz.prog 85 #[.string d] w fun e w' => e = .returned (.tuple #[.int .i64 (v : Int), .bool true]) ∧ Kept w w' := by
  rcases hz with hz | ⟨h1, h0⟩
  · have hl : decide ((1 : Int) < (d.size : Int)) = false := decide_eq_false (by omega)
    clear hz
    go_enter Tryz.func85, Tryz.ntmps85
    go_wp2_with fail
    refine (hP.out _).mono ?_
    rintro e w1 ⟨rfl, q⟩
    have Q : Hid (Kept _ _) := q
    clear q
    go_wp2
    go_ret2
    exact ⟨rfl, Q.out⟩
  · have hb : (((d[0]'(by omega)).toNat : Int) == 48) = false := by
      rw [beq_eq_false_iff_ne]; intro e; apply h0; apply UInt8.toNat_inj.1; show _ = 48; omega
    have hl : (1 : Int) < (d.size : Int) := by omega
    clear h0
    go_enter Tryz.func85, Tryz.ntmps85
    go_wp2_with fail
    refine (hP.out _).mono ?_
    rintro e w1 ⟨rfl, q⟩
    have Q : Hid (Kept _ _) := q
    clear q
    go_wp2
    go_ret2
    exact ⟨rfl, Q.out⟩

set_option maxHeartbeats 1000000 in
theorem amount_big (d : ByteArray) (w : World) (hs : d.size ≤ 6000) (he : Er w)
    (hP : Hid (∀ w, Er w → Calls Tryz.prog 108 #[.string d, .int .i64 10, .int .i64 64] w fun e w' => ∃ n N, e = .returned (.tuple #[.int .i64 n, .iface 174 (.pointer (some ⟨N, 0, none⟩))]) ∧ Kept w w'))
    (hz : d.size ≤ 1 ∨ ∃ h : 1 < d.size, d[0]'(by omega) ≠ 48) :
    Calls Tryz.prog 85 #[.string d] w fun e w' => e = .returned (.tuple #[.int .i64 0, .bool false]) ∧ Kept w w' := by
  have HE : Hid (Er w) := he
  clear he
  rcases hz with hz | ⟨h1, h0⟩
  · have hl : decide ((1 : Int) < (d.size : Int)) = false := decide_eq_false (by omega)
    clear hz
    go_enter Tryz.func85, Tryz.ntmps85
    go_wp2_with fail
    refine (hP.out _ HE.out).mono ?_
    rintro e w1 ⟨n, N, rfl, q⟩
    have Q : Hid (Kept _ _) := q
    clear q
    go_wp2
    go_ret2
    exact ⟨rfl, Q.out⟩
  · have hb : (((d[0]'(by omega)).toNat : Int) == 48) = false := by
      rw [beq_eq_false_iff_ne]; intro e; apply h0; apply UInt8.toNat_inj.1; show _ = 48; omega
    have hl : (1 : Int) < (d.size : Int) := by omega
    clear h0
    go_enter Tryz.func85, Tryz.ntmps85
    go_wp2_with fail
    refine (hP.out _ HE.out).mono ?_
    rintro e w1 ⟨n, N, rfl, q⟩
    have Q : Hid (Kept _ _) := q
    clear q
    go_wp2
    go_ret2
    exact ⟨rfl, Q.out⟩

theorem amount_any (d : ByteArray) (o : Option Nat) (hd : ∀ c ∈ d.data.toList, Lx.digit c = true) (hne : d.data.toList ≠ []) (hs : d.size ≤ 6000) (ho : Lx.num d.data.toList = o) (w : World) (he : Er w) :
    Calls Tryz.prog 85 #[.string d] w fun e w' => e = .returned (.tuple #[.int .i64 ((o.getD 0 : Nat) : Int), .bool o.isSome]) ∧ Kept w w' := by
  subst ho
  have hlen : d.data.toList.length = d.size := by simp
  unfold Lx.num
  by_cases h1 : 1 < d.size
  · by_cases h0 : d[0]'(by omega) = 48
    · rw [if_pos ⟨by omega, by rw [head_byte d (by omega), h0]⟩]
      exact (amount_zero d w h1 h0 hs).mono fun e w' ⟨a, b⟩ => ⟨a, by rw [b]; exact Kept.refl _⟩
    · rw [if_neg (by rw [head_byte d (by omega)]; simp [h0])]
      by_cases hv : Lx.val d.data.toList < 9223372036854775808
      · rw [if_pos hv]
        exact amount_ok d _ w hs hv (fun w => parse_ok d _ hd hne (by omega) rfl hv w) (.inr ⟨h1, h0⟩)
      · rw [if_neg hv]
        exact amount_big d w hs he (fun w he => parse_range d hd hne (by omega) hv w he) (.inr ⟨h1, h0⟩)
  · rw [if_neg (by omega)]
    by_cases hv : Lx.val d.data.toList < 9223372036854775808
    · rw [if_pos hv]
      exact amount_ok d _ w hs hv (fun w => parse_ok d _ hd hne (by omega) rfl hv w) (.inl (by omega))
    · rw [if_neg hv]
      exact amount_big d w hs he (fun w he => parse_range d hd hne (by omega) hv w he) (.inl (by omega))

end Go.Proofs.YtkobdephobaopaaGreatDoor

namespace Go.Proofs.YtkobdephobaopaaGreatDoor
open Go.RowKit

def signLen (l : List UInt8) : Nat :=
  match l with
  | [] => 0
  | c :: r => if c = 61 then (if r.head? = some 61 then 2 else 1) else if Lx.signs.contains c then 1 else 0

theorem sign_of (c : UInt8) (h : c ≠ 61) : Lx.signs.contains c = (((c.toNat : Int) == 60) || ((c.toNat : Int) == 43) || ((c.toNat : Int) == 45) || ((c.toNat : Int) == 42) || ((c.toNat : Int) == 47) || ((c.toNat : Int) == 37) || ((c.toNat : Int) == 40) || ((c.toNat : Int) == 41) || ((c.toNat : Int) == 123) || ((c.toNat : Int) == 125)) := by
  have e : ∀ n : Nat, n < 256 → (c == UInt8.ofNat n) = ((c.toNat : Int) == (n : Int)) := by
    intro n hn
    rw [Bool.eq_iff_iff]
    simp only [beq_iff_eq]
    rw [← UInt8.toNat_inj, UInt8.toNat_ofNat', Nat.mod_eq_of_lt hn]
    omega
  have h61 : (c == 61) = false := by simpa using h
  have e1 := e 60 (by omega); have e2 := e 43 (by omega); have e3 := e 45 (by omega); have e4 := e 42 (by omega); have e5 := e 47 (by omega)
  have e6 := e 37 (by omega); have e7 := e 40 (by omega); have e8 := e 41 (by omega); have e9 := e 123 (by omega); have e10 := e 125 (by omega)
  simp only [Lx.signs, List.contains_cons, List.contains_nil, h61, Bool.false_or, Bool.or_false]
  rw [show (c == 60) = _ from e1, show (c == 43) = _ from e2, show (c == 45) = _ from e3, show (c == 42) = _ from e4, show (c == 47) = _ from e5, show (c == 37) = _ from e6, show (c == 40) = _ from e7, show (c == 41) = _ from e8, show (c == 123) = _ from e9, show (c == 125) = _ from e10]
  simp only [Bool.or_assoc]
  rfl

theorem list_bytes (d : ByteArray) (h : 0 < d.size) : d.data.toList = d[0] :: d.data.toList.tail := by
  have : 0 < d.data.toList.length := by simpa using h
  cases hl : d.data.toList with
  | nil => rw [hl] at this; simp at this
  | cons c r =>
    have e : d[0] = d.data.toList[0] := by rw [Array.getElem_toList]; rfl
    rw [e]
    simp [hl]

theorem tail_head (d : ByteArray) (h : 1 < d.size) : d.data.toList.tail.head? = some d[1] := by
  have hl : 1 < d.data.toList.length := by simpa using h
  rw [List.head?_eq_getElem?, List.getElem?_tail, List.getElem?_eq_getElem hl, Array.getElem_toList]
  rfl

theorem tail_none (d : ByteArray) (h : ¬ 1 < d.size) : d.data.toList.tail.head? = none := by
  have hl : ¬ 1 < d.data.toList.length := by simpa using h
  rw [List.head?_eq_getElem?, List.getElem?_tail, List.getElem?_eq_none (by omega)]

set_option maxHeartbeats 1000000 in
theorem signLength_eq (d : ByteArray) (n : Nat) (w : World) (h : 0 < d.size) (hs : d.size ≤ 6000) (hc : d[0] = 61) (hn : signLen d.data.toList = n) :
    Calls Tryz.prog 86 #[.string d] w fun e w' => e = .returned (.int .i64 (n : Int)) ∧ w' = w := by
  rw [list_bytes d h, signLen] at hn
  simp only [hc, if_true] at hn
  have hb : ((d[0].toNat : Int) == 61) = true := by rw [hc]; rfl
  have hl0 : (0 : Int) < (d.size : Int) := by omega
  by_cases h1 : 1 < d.size
  · rw [tail_head d h1] at hn
    have hl : (1 : Int) < (d.size : Int) := by omega
    by_cases h2 : d[1] = 61
    · rw [if_pos (by rw [h2])] at hn
      subst hn
      have hb2 : ((d[1].toNat : Int) == 61) = true := by rw [h2]; rfl
      clear hc h2
      go_enter Tryz.func86, Tryz.ntmps86
      go_wp2
      go_ret
      exact ⟨rfl, rfl⟩
    · rw [if_neg (by intro e; exact h2 (Option.some.inj e))] at hn
      subst hn
      have hb2 : ((d[1].toNat : Int) == 61) = false := by
        rw [beq_eq_false_iff_ne]; intro e; apply h2; apply UInt8.toNat_inj.1; show _ = 61; omega
      clear hc h2
      go_enter Tryz.func86, Tryz.ntmps86
      go_wp2
      go_ret
      exact ⟨rfl, rfl⟩
  · rw [tail_none d h1, if_neg (by intro e; cases e)] at hn
    subst hn
    have hl : decide ((1 : Int) < (d.size : Int)) = false := decide_eq_false (by omega)
    clear hc h1
    go_enter Tryz.func86, Tryz.ntmps86
    go_wp2
    go_ret
    exact ⟨rfl, rfl⟩

theorem bool_one (b : Bool) (n : Nat) (h : (if b then 1 else 0) = n) : ((if b = true then 1 else 0 : Nat) : Int) = n := by rw [h]

set_option maxHeartbeats 2000000 in
theorem signLength_ne (d : ByteArray) (n : Nat) (w : World) (h : 0 < d.size) (hs : d.size ≤ 6000) (hc : d[0] ≠ 61) (hn : signLen d.data.toList = n) :
    Calls Tryz.prog 86 #[.string d] w fun e w' => e = .returned (.int .i64 (n : Int)) ∧ w' = w := by
  rw [list_bytes d h, signLen, if_neg hc, sign_of _ hc] at hn
  have hb : ((d[0].toNat : Int) == 61) = false := by
    rw [beq_eq_false_iff_ne]; intro e; apply hc; apply UInt8.toNat_inj.1; show _ = 61; omega
  have hl0 : (0 : Int) < (d.size : Int) := by omega
  have HN : Hid (_ = n) := hn
  clear hc hn
  generalize hx : (d[0].toNat : Int) = x at *
  by_cases c1 : x = 60
  · have b1 : (x == 60) = true := by simp [c1]
    rw [b1] at HN
    clear c1
    go_enter Tryz.func86, Tryz.ntmps86
    go_wp2
    go_ret
    exact ⟨ret_int (by rw [← HN.out]; rfl), rfl⟩
  have b1 : (x == 60) = false := by simp [c1]
  rw [b1] at HN
  clear c1
  by_cases c1 : x = 43 ∨ x = 45 ∨ x = 42 ∨ x = 47 ∨ x = 37 ∨ x = 40 ∨ x = 41 ∨ x = 123 ∨ x = 125
  · have N1 : Hid (1 = n) := by
      rw [← HN.out]
      rcases c1 with rfl | rfl | rfl | rfl | rfl | rfl | rfl | rfl | rfl <;> rfl
    clear HN
    rcases c1 with rfl | rfl | rfl | rfl | rfl | rfl | rfl | rfl | rfl
    all_goals
      go_enter Tryz.func86, Tryz.ntmps86
      go_wp2
      go_ret
      exact ⟨ret_int (by rw [← N1.out]; rfl), rfl⟩
  · have m1 : (x == 43) = false := by simp; omega
    have m2 : (x == 45) = false := by simp; omega
    have m3 : (x == 42) = false := by simp; omega
    have m4 : (x == 47) = false := by simp; omega
    have m5 : (x == 37) = false := by simp; omega
    have m6 : (x == 40) = false := by simp; omega
    have m7 : (x == 41) = false := by simp; omega
    have m8 : (x == 123) = false := by simp; omega
    have m9 : (x == 125) = false := by simp; omega
    rw [m1, m2, m3, m4, m5, m6, m7, m8, m9] at HN
    clear c1
    go_enter Tryz.func86, Tryz.ntmps86
    go_wp2
    go_ret
    exact ⟨ret_int (by rw [← HN.out]; rfl), rfl⟩

theorem signLength_any (d : ByteArray) (n : Nat) (w : World) (h : 0 < d.size) (hs : d.size ≤ 6000) (hn : signLen d.data.toList = n) :
    Calls Tryz.prog 86 #[.string d] w fun e w' => e = .returned (.int .i64 (n : Int)) ∧ w' = w := by
  by_cases hc : d[0] = 61
  · exact signLength_eq d n w h hs hc hn
  · exact signLength_ne d n w h hs hc hn

end Go.Proofs.YtkobdephobaopaaGreatDoor
