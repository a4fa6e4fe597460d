/- PlaceTells answers true at every text of fewer than 2^31 bytes, at whatever memory in which the table of powers of ten lies as the program's text lays it. -/
import Derived.Test.YthkooeohhgpkcaaDoorWalksT
import Derived.Test.YthkooeohhgpkcaaDoorWalksF
namespace Go.Proofs.YthkooeohhgpkcaaDoor
open Go.RowKit

theorem neg_rung (n : Nat) (h : n < 2 ^ 53) : (Ieee.double.read (Fp.rung n)).neg = false := by
  obtain ⟨c, hc⟩ := Fp.rep_rung n h
  rw [hc]; rfl

theorem most_rung : (4746794007248502784 : Nat) = Fp.rung 2147483648 := by decide +kernel

theorem whole_rung (n : Nat) (hn : n ≤ 2147483648) (w : World) :
    Calls Tryd.prog 22 #[.float .f64 (Fp.rung n)] w fun e w' => e = .returned (.int .i64 (n : Int)) ∧ w' = w := by
  have rn := Fp.rep_rung n (by omega)
  have r0 := Fp.rep_rung 0 (by omega)
  have rm := Fp.rep_rung 2147483648 (by omega)
  have e0 : Ieee.double.order (Fp.rung n) 0 = some (compare n 0) := by rw [zero_rung]; exact Fp.order_rep rn r0
  have em : maxW (Fp.rung n) 0 = Fp.rung n := by
    unfold maxW
    rw [e0]
    rcases Nat.eq_zero_or_pos n with h | h
    · subst h; simp [neg_rung 0 (by omega)]
    · rw [Nat.compare_eq_gt.2 h]
  have eo : Ieee.double.order (Fp.rung n) 4746794007248502784 = some (compare n 2147483648) := by rw [most_rung]; exact Fp.order_rep rn rm
  have emin : minW (Fp.rung n) 4746794007248502784 = Fp.rung n := by
    unfold minW
    rw [eo]
    rcases Nat.lt_or_eq_of_le hn with h | h
    · rw [Nat.compare_eq_lt.2 h]
    · subst h; simp [neg_rung 2147483648 (by omega), most_rung]
  refine whole_num (Fp.rung n) n w ?_ (by rw [e0]; rfl) (by rw [em, eo]; rfl) ?_
  · rw [Fp.order_rep rn rn]; simp
  · rw [em, emin]
    unfold floatToIntVal
    have := Fp.toInt_rep rn
    have e1 : FloatKind.f64.decode (Fp.rung n) = Ieee.double.read (Fp.rung n) := rfl
    rw [e1, this]
    have b1 : IntKind.i64.min = -9223372036854775808 := rfl
    have b2 : IntKind.i64.max = 9223372036854775807 := rfl
    simp only [b1, b2]
    rw [if_pos (by omega)]

theorem print_rung (l c : Nat) (hl : l ≤ 2147483648) (hc : c ≤ 2147483648) (w : World) (ht : Tab w) :
    Calls Tryd.prog 12 #[.complex .f64 (Fp.rung l) (Fp.rung c)] w fun e w' => e = .returned (.string (dig l ++ ⟨#[58]⟩ ++ dig c)) ∧ Kept w w' :=
  print_of _ _ l c w (by omega) (by omega) ht (whole_rung l hl) (whole_rung c hc)

/-- Which byte has that place? -/
theorem find_place (s : ByteArray) (l c : Nat) : (∃ n, n ≤ s.size ∧ Sp.spot (s.data.toList.take n) = (l, c) ∧ ∀ j, j ≤ s.size → j ≠ n → Sp.spot (s.data.toList.take j) ≠ (l, c)) ∨ (∀ j, j ≤ s.size → Sp.spot (s.data.toList.take j) ≠ (l, c)) := by
  by_cases h : ∃ n, n ≤ s.size ∧ Sp.spot (s.data.toList.take n) = (l, c)
  · obtain ⟨n, hn, e⟩ := h
    refine Or.inl ⟨n, hn, e, fun j hj hne e2 => hne ?_⟩
    exact (Sp.apart s.data.toList j n (by simpa using hj) (by simpa using hn)).1 (e2.trans e.symm)
  · refine Or.inr fun j hj e => h ⟨j, hj, e⟩

theorem same_at (s : ByteArray) (j l c : Nat) (hs : s.size ≤ 281474976710656) (hj : j ≤ s.size) (hl : l < 2 ^ 53) (hc : c < 2 ^ 53) : same (lineW s j) (colW s j) (Fp.rung l) (Fp.rung c) = decide (Sp.spot (s.data.toList.take j) = (l, c)) := by
  unfold same
  rw [Fp.order_rep (rep_line s j hs hj) (Fp.rep_rung l hl), Fp.order_rep (rep_col s j hs hj) (Fp.rep_rung c hc), cmp_eq, cmp_eq, ← Bool.decide_and]
  exact decide_eq_decide.2 (by rw [Prod.ext_iff])

theorem spot_in (s : ByteArray) (k : Nat) (hs : s.size ≤ 281474976710656) (hk : k ≤ s.size) (w : World) :
    Calls Tryd.prog 15 #[.string s, .int .i64 (k : Int)] w fun e w' => e = .returned (.tuple #[.int .i64 ((Sp.spot (s.data.toList.take k)).1 : Nat), .int .i64 ((Sp.spot (s.data.toList.take k)).2 : Nat)]) ∧ w' = w := by
  have := spot_any s k w hs
  rwa [show clampAt (k : Int) s.size = k by unfold clampAt; omega] at this

set_option maxHeartbeats 2000000 in
theorem tells_walk (s A B : ByteArray) (a u v m : Int) (l c l0 c0 : Nat) (ok : Bool) (nv : Int) (f : Nat → Int) (w : World) (hs : s.size ≤ 2147483000) (hT : Tab w) (hm0 : 0 ≤ m) (hm1 : m ≤ (s.size : Int) + 4)
    (hsa : A.size ≤ 20) (hsb : B.size ≤ 20)
    (pk : ∀ w, Calls Tryd.prog 14 #[.int .i64 a, .int .i64 ((s.size : Int) + 5)] w fun e w' => e = .returned (.int .i64 m) ∧ w' = w)
    (of : ∀ w, Calls Tryd.prog 11 #[.string s, .int .i64 (m - 2)] w fun e w' => e = .returned (.complex .f64 (Fp.rung l) (Fp.rung c)) ∧ w' = w)
    (sp : ∀ w, Calls Tryd.prog 15 #[.string s, .int .i64 (m - 2)] w fun e w' => e = .returned (.tuple #[.int .i64 (l : Nat), .int .i64 (c : Nat)]) ∧ w' = w)
    (fl : floatOfInt .f64 (l : Int) = Fp.rung l) (fc : floatOfInt .f64 (c : Int) = Fp.rung c) (fl0 : floatOfInt .f64 (l0 : Int) = Fp.rung l0) (fc0 : floatOfInt .f64 (c0 : Int) = Fp.rung c0)
    (ne : ∀ w, (binOp .neq 24 (.complex .f64 (Fp.rung l) (Fp.rung c)) (.complex .f64 (Fp.rung l) (Fp.rung c))).run Tryd.prog w = .ok (.bool false) w)
    (pr : ∀ w, Tab w → Calls Tryd.prog 12 #[.complex .f64 (Fp.rung l) (Fp.rung c)] w fun e w' => e = .returned (.string (A ++ ⟨#[58]⟩ ++ B)) ∧ Kept w w')
    (da : ∀ w, Calls Tryd.prog 16 #[.int .i64 (l : Int)] w fun e w' => e = .returned (.string A) ∧ Kept w w')
    (db : ∀ w, Calls Tryd.prog 16 #[.int .i64 (c : Int)] w fun e w' => e = .returned (.string B) ∧ Kept w w')
    (pl : ∀ w, Calls Tryd.prog 14 #[.int .i64 u, .int .i64 9] w fun e w' => e = .returned (.int .i64 (l0 : Int)) ∧ w' = w)
    (pc : ∀ w, Calls Tryd.prog 14 #[.int .i64 v, .int .i64 20] w fun e w' => e = .returned (.int .i64 (c0 : Int)) ∧ w' = w)
    (bk : ∀ w, Calls Tryd.prog 9 #[.string s, .complex .f64 (Fp.rung l0) (Fp.rung c0)] w fun e w' => e = .returned (.tuple #[.int .i64 nv, .bool ok]) ∧ w' = w)
    (f0 : f 0 = -1) (fh : ∀ k, k ≤ s.size → Sp.spot (s.data.toList.take k) = (l0, c0) → f (k + 1) = k) (fm : ∀ k, k ≤ s.size → Sp.spot (s.data.toList.take k) ≠ (l0, c0) → f (k + 1) = f k)
    (fin : (ok = false ∧ nv = 0 ∧ f (s.size + 1) = -1) ∨ (∃ n : Nat, ok = true ∧ nv = n ∧ f (s.size + 1) = n)) :
    Calls Tryd.prog 4 #[.string s, .int .i64 a, .int .i64 u, .int .i64 v] w fun e w' => e = .returned (.bool true) ∧ Kept w w' := by
  have HT : Hid (Tab w) := hT
  have PK : Hid (∀ w, _) := pk
  have OF : Hid (∀ w, _) := of
  have SP : Hid (∀ w, _) := sp
  have PR : Hid (∀ w, Tab w → _) := pr
  have DA : Hid (∀ w, _) := da
  have DB : Hid (∀ w, _) := db
  have PL : Hid (∀ w, _) := pl
  have PC : Hid (∀ w, _) := pc
  have BK : Hid (∀ w, _) := bk
  have F0 : Hid (_ = _) := f0
  have FH : Hid (∀ k, _) := fh
  have FM : Hid (∀ k, _) := fm
  have FIN : Hid (_ ∨ _) := fin
  clear hT pk of sp pr da db pl pc bk f0 fh fm fin
  generalize Fp.rung l = LW at *
  generalize Fp.rung c = CW at *
  generalize Fp.rung l0 = LW0 at *
  generalize Fp.rung c0 = CW0 at *
  go_enter Tryd.func4, Tryd.ntmps4
  go_wp2_with fail
  refine (PK.out _).mono ?_
  rintro e v1 ⟨rfl, rfl⟩
  go_wp2_with fail
  refine (OF.out _).mono ?_
  rintro e v1 ⟨rfl, rfl⟩
  go_wp2_with fail
  refine (SP.out _).mono ?_
  rintro e v1 ⟨rfl, rfl⟩
  go_wp2_with fail
  refine (PR.out _ HT.out).mono ?_
  rintro e v1 ⟨rfl, q1⟩
  have Q1 : Hid (Kept _ _) := q1
  clear q1
  go_wp2_with fail
  refine (DA.out _).mono ?_
  rintro e v2 ⟨rfl, q2⟩
  have Q2 : Hid (Kept _ _) := Q1.out.then q2
  clear q2
  go_wp2_with fail
  refine (DB.out _).mono ?_
  rintro e v3 ⟨rfl, q3⟩
  have Q3 : Hid (Kept _ _) := Q2.out.then q3
  clear q3
  go_wp2_with fail
  refine (PL.out _).mono ?_
  rintro e v4 ⟨rfl, rfl⟩
  go_wp2_with fail
  refine (PC.out _).mono ?_
  rintro e v4 ⟨rfl, rfl⟩
  go_wp2_with fail
  refine (BK.out _).mono ?_
  rintro e v4 ⟨rfl, rfl⟩
  go_wp2_with fail
  go_loop [15, 16] (fun z i => ∃ k : Nat, k ≤ s.size + 1 ∧ i = .int .i64 k ∧ z = .int .i64 (f k)) (fun _ i => s.size + 1 - (intOf i).toNat)
  case atStart => exact ⟨0, Nat.zero_le _, rfl, by rw [F0.out]⟩
  case round =>
    obtain ⟨k, hk, rfl, rfl⟩ := hrel
    by_cases hlt : k ≤ s.size
    · have hlt2 : (k : Int) ≤ (s.size : Int) := by omega
      have SK : Hid (∀ w, _) := spot_in s k (by omega) hlt
      have FK : Hid (Sp.spot (s.data.toList.take k) = (l0, c0) → f (k + 1) = k) := FH.out k hlt
      have GK : Hid (Sp.spot (s.data.toList.take k) ≠ (l0, c0) → f (k + 1) = f k) := FM.out k hlt
      generalize Sp.spot (s.data.toList.take k) = p at *
      obtain ⟨x, y⟩ := p
      by_cases h1 : x = l0
      · have t1 : ((x : Int) == (l0 : Int)) = true := by simp [h1]
        by_cases h2 : y = c0
        · have t2 : ((y : Int) == (c0 : Int)) = true := by simp [h2]
          have E : Hid (f (k + 1) = (k : Int)) := FK.out (by rw [h1, h2])
          clear h1 h2
          go_wp2_with (go_at_call 15; refine (SK.out _).mono ?_; rintro e w' ⟨rfl, rfl⟩)
          go_round
          case rel => exact ⟨k + 1, by omega, by go_num, by rw [E.out]⟩
          case measure => simp [intOf]; omega
        · have t2 : ((y : Int) == (c0 : Int)) = false := by rw [beq_eq_false_iff_ne]; omega
          have E : Hid (f (k + 1) = f k) := GK.out (by intro e; apply h2; exact congrArg Prod.snd e)
          clear h1 h2
          go_wp2_with (go_at_call 15; refine (SK.out _).mono ?_; rintro e w' ⟨rfl, rfl⟩)
          go_round
          case rel => exact ⟨k + 1, by omega, by go_num, by rw [E.out]⟩
          case measure => simp [intOf]; omega
      · have t1 : ((x : Int) == (l0 : Int)) = false := by rw [beq_eq_false_iff_ne]; omega
        have E : Hid (f (k + 1) = f k) := GK.out (by intro e; apply h1; exact congrArg Prod.fst e)
        clear h1
        go_wp2_with (go_at_call 15; refine (SK.out _).mono ?_; rintro e w' ⟨rfl, rfl⟩)
        go_round
        case rel => exact ⟨k + 1, by omega, by go_num, by rw [E.out]⟩
        case measure => simp [intOf]; omega
    · have hks : k = s.size + 1 := by omega
      have hge : (s.size : Int) < (k : Int) := by omega
      rcases FIN.out with ⟨h1, h2, h3⟩ | ⟨n, h1, h2, h3⟩
      · subst h1 h2
        have E : f k = -1 := by rw [hks]; exact h3
        clear hks h3
        go_wp2_with fail
        refine (known_any _ (HT.out.kept Q3.out)).mono ?_
        rintro e v5 ⟨rfl, q5⟩
        have Q5 : Hid (Kept _ _) := Q3.out.then q5
        clear q5
        go_wp2
        go_ret
        exact ⟨rfl, Q5.out⟩
      · subst h1 h2
        have E : f k = (n : Int) := by rw [hks]; exact h3
        clear hks h3
        go_wp2_with fail
        refine (known_any _ (HT.out.kept Q3.out)).mono ?_
        rintro e v5 ⟨rfl, q5⟩
        have Q5 : Hid (Kept _ _) := Q3.out.then q5
        clear q5
        go_wp2
        go_ret
        exact ⟨rfl, Q5.out⟩

theorem pick_const (a : Int) (m : Nat) (h0 : 0 < m) (hm : m ≤ 1000) : ∃ k : Nat, k < m ∧ ∀ w, Calls Tryd.prog 14 #[.int .i64 a, .int .i64 (m : Int)] w fun e w' => e = .returned (.int .i64 (k : Int)) ∧ w' = w := by
  have h1 := Int.emod_nonneg a (by omega : (m : Int) ≠ 0)
  have h2 := Int.emod_lt_of_pos a (by omega : 0 < (m : Int))
  obtain ⟨k, hk⟩ := Int.eq_ofNat_of_zero_le h1
  refine ⟨k, by omega, fun w => ?_⟩
  have := pick_any a (m : Int) w (by omega) (by omega)
  rwa [hk] at this

theorem run_cneq {P : Program} (a b : Nat) (ha : a < 2 ^ 53) (hb : b < 2 ^ 53) (w : World) : (binOp .neq 24 (.complex .f64 (Fp.rung a) (Fp.rung b)) (.complex .f64 (Fp.rung a) (Fp.rung b))).run P w = .ok (.bool false) w := by
  rw [run_neq_complex]
  have e1 : FloatKind.f64.format.order (Fp.rung a) (Fp.rung a) = some (compare a a) := Fp.order_rep (Fp.rep_rung a ha) (Fp.rep_rung a ha)
  have e2 : FloatKind.f64.format.order (Fp.rung b) (Fp.rung b) = some (compare b b) := Fp.order_rep (Fp.rep_rung b hb) (Fp.rep_rung b hb)
  rw [e1, e2, cmp_eq, cmp_eq]
  simp

theorem placeTells_any (s : ByteArray) (a u v : Int) (w : World) (hs : s.size ≤ 2147483000) (hT : Tab w) :
    Calls Tryd.prog 4 #[.string s, .int .i64 a, .int .i64 u, .int .i64 v] w fun e w' => e = .returned (.bool true) ∧ Kept w w' := by
  have m0 := Int.emod_nonneg a (by omega : (s.size : Int) + 5 ≠ 0)
  have m1 := Int.emod_lt_of_pos a (by omega : 0 < (s.size : Int) + 5)
  have pk := fun w => pick_any a ((s.size : Int) + 5) w (by omega) (by omega)
  obtain ⟨m, hm⟩ : ∃ m, a % ((s.size : Int) + 5) = m := ⟨_, rfl⟩
  rw [hm] at m0 m1 pk
  obtain ⟨k, hk⟩ : ∃ k, clampAt (m - 2) s.size = k := ⟨_, rfl⟩
  have hkl : k ≤ s.size := by unfold clampAt at hk; omega
  obtain ⟨⟨l, c⟩, hp⟩ : ∃ p, Sp.spot (s.data.toList.take k) = p := ⟨_, rfl⟩
  have b := Sp.spot_le (s.data.toList.take k)
  have b2 : (s.data.toList.take k).length ≤ k := List.length_take_le _ _
  rw [hp] at b
  simp only at b
  have of : ∀ w, Calls Tryd.prog 11 #[.string s, .int .i64 (m - 2)] w fun e w' => e = .returned (.complex .f64 (Fp.rung l) (Fp.rung c)) ∧ w' = w := fun w => of_at s (m - 2) _ _ (by omega) (by rw [hk, hp]) (by rw [hk, hp]) w
  have sp : ∀ w, Calls Tryd.prog 15 #[.string s, .int .i64 (m - 2)] w fun e w' => e = .returned (.tuple #[.int .i64 (l : Nat), .int .i64 (c : Nat)]) ∧ w' = w := fun w => by
    have := spot_any s (m - 2) w (by omega)
    rwa [hk, hp] at this
  obtain ⟨l0, hl0, pl⟩ := pick_const u 9 (by omega) (by omega)
  obtain ⟨c0, hc0, pc⟩ := pick_const v 20 (by omega) (by omega)
  have fr : ∀ n : Nat, n ≤ 2147483648 → floatOfInt .f64 (n : Int) = Fp.rung n := fun n hn => Fp.floatOfInt_eq n (by omega)
  rcases find_place s l0 c0 with ⟨n, hn, e, ho⟩ | ho
  · refine tells_walk s (dig l) (dig c) a u v m l c l0 c0 true n (fun k => if k ≤ n then -1 else (n : Int)) w hs hT m0 (by omega) (dig_size l (by omega)) (dig_size c (by omega)) pk of sp
      (fr l (by omega)) (fr c (by omega)) (fr l0 (by omega)) (fr c0 (by omega)) (run_cneq l c (by omega) (by omega)) (print_rung l c (by omega) (by omega)) (digits_any l (by omega)) (digits_any c (by omega)) pl pc ?_ rfl ?_ ?_ ?_
    · intro w
      refine back_hit s _ _ n w (by omega) hn ?_ fun j hj => ?_
      · rw [same_at s n l0 c0 (by omega) hn (by omega) (by omega)]; exact decide_eq_true e
      · rw [same_at s j l0 c0 (by omega) (by omega) (by omega) (by omega)]; exact decide_eq_false (ho j (by omega) (by omega))
    · intro k hk2 e2
      have : k = n := by
        apply Classical.byContradiction
        intro h
        exact ho k hk2 h e2
      subst this
      show (if k + 1 ≤ k then _ else _) = _
      rw [if_neg (by omega)]
    · intro k hk2 e2
      have : k ≠ n := by intro h; subst h; exact e2 e
      show (if k + 1 ≤ n then _ else _) = (if k ≤ n then _ else _)
      by_cases h : k < n
      · rw [if_pos (by omega), if_pos (by omega)]
      · rw [if_neg (by omega), if_neg (by omega)]
    · refine Or.inr ⟨n, rfl, rfl, ?_⟩
      show (if s.size + 1 ≤ n then _ else _) = _
      rw [if_neg (by omega)]
  · refine tells_walk s (dig l) (dig c) a u v m l c l0 c0 false 0 (fun _ => -1) w hs hT m0 (by omega) (dig_size l (by omega)) (dig_size c (by omega)) pk of sp
      (fr l (by omega)) (fr c (by omega)) (fr l0 (by omega)) (fr c0 (by omega)) (run_cneq l c (by omega) (by omega)) (print_rung l c (by omega) (by omega)) (digits_any l (by omega)) (digits_any c (by omega)) pl pc ?_ rfl ?_ ?_ ?_
    · intro w
      refine back_miss s _ _ w (by omega) fun j hj => ?_
      rw [same_at s j l0 c0 (by omega) hj (by omega) (by omega)]; exact decide_eq_false (ho j hj)
    · intro k hk2 e2; exact absurd e2 (ho k hk2)
    · intro k _ _; rfl
    · exact Or.inl ⟨rfl, rfl, rfl⟩

end Go.Proofs.YthkooeohhgpkcaaDoor
