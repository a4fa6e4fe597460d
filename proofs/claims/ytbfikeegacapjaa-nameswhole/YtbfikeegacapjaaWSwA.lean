/- SwA -/
import Derived.Test.YtbfikeegacapjaaWHdA
import Derived.Deep.RegionWith
import Derived.Test.YtbfikeegacapjaaWKpA
import Derived.Deep.RegionHeld3

namespace Go.Proofs.Ytbfikeegacapjaa
open Go.RowKit
theorem conv_one (W : World) (b d : Nat) (hd : d < 10) (hc : W.cell? ⟨b, 0, none⟩ = some (.int .u8 (48 + (d : Int)))) :
    (convert 101 9 (.slice (some ⟨b, 0, none⟩) 1 1)).run Try.prog W = .ok (.string ⟨#[UInt8.ofNat (48 + d)]⟩) W := by
  have e : (UInt8.ofNat (48 + d)).toNat = 48 + d := by rw [UInt8.toNat_ofNat']; omega
  have := run_convert_bytes_back (P := Try.prog) W 101 9 5 ⟨b, 0, none⟩ 1 [UInt8.ofNat (48 + d)] (by kernel_rfl) (by kernel_rfl) (by kernel_rfl) (fun j hj => by
    have hj0 : j = 0 := by simp at hj; exact hj
    subst hj0
    simp only [List.getElem_cons_zero]
    rw [e]
    show W.cell? ⟨b, 0, none⟩ = _
    rw [hc]
    congr 2)
  exact this
def dig (n : Nat) : ByteArray := ⟨(Lib.decDigits n).toArray⟩
theorem dig_itoa (n : Nat) : dig n = Px.ba (Lib.itoa (n : Int)) := by rw [Lib.itoa_nonneg]; rfl
theorem dig_one (i : Nat) (h : i < 10) : dig i = ⟨#[UInt8.ofNat (48 + i)]⟩ := by unfold dig; rw [Lib.decDigits_one h]
theorem dig_step (n : Nat) (h : ¬ n < 10) : Lib.decDigits n = Lib.decDigits (n / 10) ++ [UInt8.ofNat (48 + n % 10)] := by rw [Lib.decDigits, dif_neg h]
theorem dig_len (n : Nat) (h : n < 9223372036854775808) : (dig n).size ≤ 21 := by
  rw [dig_itoa]
  have := Lib.itoa_length_le (n : Int) (by omega) (by omega)
  show (Lib.itoa (n : Int)).toArray.size ≤ 21
  rw [List.size_toArray]; omega
set_option maxHeartbeats 400000 in
set_option maxRecDepth 100000 in
theorem digits_small (n : Nat) (hn : n < 10) (w : World) :
    Calls Try.prog 27 #[.int .i64 (n : Int)] w fun e w' => e = .returned (.string (dig n)) ∧ Kept w w' := by
  have h1 : (n : Int) < 10 := by omega
  have h0 : 0 ≤ (n : Int) := by omega
  have hv := conv_one (w.alloc (.cells #[.int .u8 (48 + (n : Int))] 5)) w.heap.size n hn (by simp)
  rw [← dig_one n hn] at hv
  generalize dig n = S at *
  go_enter Try.func27, Try.ntmps27
  go_wp2
  go_ret
  exact ⟨rfl, (Kept.refl w).alloc (Nat.le_refl _) _⟩
set_option maxHeartbeats 1000000 in
set_option maxRecDepth 100000 in
theorem digits_walk (n q r : Int) (S C : ByteArray) (w : World) (h1 : 10 ≤ n) (hq : IntKind.i64.wrap (n.tdiv 10) = q) (hr : n.tmod 10 = r) (h3 : IntKind.i64.wrap (48 + r) = 48 + r) (h4 : IntKind.u8.wrap (48 + r) = 48 + r)
    (sz : S.size ≤ 21) (sz2 : C.size ≤ 1)
    (ih : ∀ w, Calls Try.prog 27 #[.int .i64 q] w fun e w' => e = .returned (.string S) ∧ Kept w w')
    (hv : ∀ (W : World) (b : Nat), W.cell? ⟨b, 0, none⟩ = some (.int .u8 (48 + r)) → (convert 101 9 (.slice (some ⟨b, 0, none⟩) 1 1)).run Try.prog W = .ok (.string C) W) :
    Calls Try.prog 27 #[.int .i64 n] w fun e w' => e = .returned (.string (S ++ C)) ∧ Kept w w' := by
  have IH : Hid (∀ w, _) := ih
  clear ih
  have hd : decide (n < 10) = false := decide_eq_false (by omega)
  go_enter Try.func27, Try.ntmps27
  go_wp2_with fail
  go_region_with (go_at_call 27; refine (IH.out _).mono ?_; rintro e w1 ⟨rfl, hb⟩; obtain ⟨hc, hf⟩ := bcell hb)
  all_goals
    go_wp2
    go_ret
    refine ⟨rfl, ?_⟩
    first
      | exact ((Kept.refl w).drew.then hb).then ((Kept.refl _).alloc (Nat.le_refl _) _)
      | exact (Kept.drew ((Kept.refl w).alloc (Nat.le_refl _) _)).then hb
theorem digits_any (n : Nat) : n ≤ 9223372036854775807 → ∀ w : World, Calls Try.prog 27 #[.int .i64 (n : Int)] w fun e w' => e = .returned (.string (dig n)) ∧ Kept w w' := by
  induction n using Nat.strongRecOn with
  | _ n ih =>
    intro hn w
    by_cases h : n < 10
    · exact digits_small n h w
    · have e1 : ((n : Int).tdiv 10) = ((n / 10 : Nat) : Int) := by rw [Int.tdiv_eq_ediv_of_nonneg (by omega)]; rfl
      have e2 : ((n : Int).tmod 10) = ((n % 10 : Nat) : Int) := by rw [Int.tmod_eq_emod_of_nonneg (by omega)]; rfl
      have D : dig n = dig (n / 10) ++ ⟨#[UInt8.ofNat (48 + n % 10)]⟩ := by
        unfold dig
        rw [dig_step n (by omega)]
        apply ByteArray.ext
        rw [ByteArray.data_append]
        simp
      rw [D]
      refine digits_walk (n : Int) ((n / 10 : Nat) : Int) ((n % 10 : Nat) : Int) _ _ w (by omega) ?_ e2 ?_ ?_ (dig_len (n / 10) (by omega)) (Nat.le_refl _) (ih (n / 10) (by omega) (by omega)) (fun W b hc => conv_one W b (n % 10) (by omega) hc)
      · rw [e1, IntKind.wrap_i64]; omega
      · rw [IntKind.wrap_i64]; omega
      · rw [IntKind.wrap_u8]; omega
def tabsB (d : Nat) : ByteArray := Px.ba (List.replicate d 9)
theorem tabsB_size (d : Nat) : (tabsB d).size = d := by unfold tabsB Px.ba; simp [ByteArray.size]
theorem tabsB_succ (d : Nat) : (⟨#[9]⟩ : ByteArray) ++ tabsB d = tabsB (d + 1) := by
  unfold tabsB Px.ba
  apply ByteArray.ext
  rw [ByteArray.data_append, List.replicate_succ]
  simp
set_option maxRecDepth 100000 in
theorem tabs_any (d : Nat) : d ≤ 100 → ∀ w : World, Calls Try.prog 48 #[.int .i64 (d : Int)] w fun e w' => e = .returned (.string (tabsB d)) ∧ w' = w := by
  induction d with
  | zero =>
    intro _ w
    go_enter Try.func48, Try.ntmps48
    go_wp2_with fail
    go_ret
    exact ⟨rfl, rfl⟩
  | succ d ih =>
    intro hd w
    have IH : Hid (∀ w, Calls Try.prog 48 #[.int .i64 (d : Int)] w fun e w' => e = .returned (.string (tabsB d)) ∧ w' = w) := fun w => ih (by omega) w
    have hs := tabsB_size d
    have HE : Hid ((⟨#[9]⟩ : ByteArray) ++ tabsB d = tabsB (d + 1)) := tabsB_succ d
    have hp : ¬ ((d : Int) + 1 ≤ 0) := by omega
    have hw : (((d + 1 : Nat) : Int)) = (d : Int) + 1 := by omega
    rw [hw]
    generalize tabsB d = S at *
    clear ih hw
    go_enter Try.func48, Try.ntmps48
    go_wp2_with fail
    refine (IH.out _).mono ?_
    rintro e w' ⟨rfl, rfl⟩
    go_wp2_with fail
    go_ret
    exact ⟨by rw [← HE.out]; rfl, rfl⟩
def lvl (k : Int) : Int := if k = 9 ∨ k = 10 then 1 else if k = 4 ∨ k = 5 then 2 else if k = 6 ∨ k = 7 ∨ k = 8 then 3 else if k = 3 then 4 else if k = 1 ∨ k = 2 then 5 else 0
set_option maxRecDepth 100000 in
theorem level_at (k : Nat) (h1 : 1 ≤ k) (h2 : k ≤ 10) (w : World) : Calls Try.prog 64 #[.int .i64 (k : Int)] w fun e w' => e = .returned (.int .i64 (lvl k)) ∧ w' = w := by
  match k, h1, h2 with
  | 1, _, _ | 2, _, _ | 3, _, _ | 4, _, _ | 5, _, _ | 6, _, _ | 7, _, _ | 8, _, _ | 9, _, _ | 10, _, _ =>
    go_enter Try.func64, Try.ntmps64
    go_wp2_with fail
    go_ret
    exact ⟨rfl, rfl⟩
set_option maxRecDepth 100000 in
theorem sign_at (k : Nat) (h1 : 4 ≤ k) (h2 : k ≤ 10) (w : World) : Calls Try.prog 66 #[.int .i64 (k : Int)] w fun e w' => e = .returned (.string (Px.ba (Px.sgn (k : Int)))) ∧ w' = w := by
  match k, h1, h2 with
  | 4, _, _ | 5, _, _ | 6, _, _ | 7, _, _ | 8, _, _ | 9, _, _ | 10, _, _ =>
    go_enter Try.func66, Try.ntmps66
    go_wp2_with fail
    go_ret
    exact ⟨rfl, rfl⟩
end Go.Proofs.Ytbfikeegacapjaa
namespace Go.Proofs.Ytbfikeegacapjaa
open Go.RowKit
theorem Px.ba_app (a b : List UInt8) : Px.ba a ++ Px.ba b = Px.ba (a ++ b) := by
  unfold Px.ba
  apply ByteArray.ext
  rw [ByteArray.data_append]
  simp
theorem Px.ba_size (a : List UInt8) : (Px.ba a).size = a.length := by unfold Px.ba; simp [ByteArray.size]
theorem Px.Wf.kinds {x : Ex} (h : Px.Wf x) : ∃ k : Nat, x.kind = (k : Int) ∧ 1 ≤ k ∧ k ≤ 10 := by
  cases h with
  | num n _ => exact ⟨1, rfl, by omega, by omega⟩
  | name t _ => exact ⟨2, rfl, by omega, by omega⟩
  | minus y _ => exact ⟨3, rfl, by omega, by omega⟩
  | bin k y z h1 h2 _ _ => exact ⟨k, rfl, by omega, h2⟩
theorem lvl_rnk (k : Nat) (h1 : 1 ≤ k) (h2 : k ≤ 10) (low : Nat) (hl : low ≤ 4) : (lvl (k : Int) < (low : Int)) ↔ (Px.rnk (k : Int) < low) := by
  match k, h1, h2 with
  | 1, _, _ | 2, _, _ | 3, _, _ | 4, _, _ | 5, _, _ | 6, _, _ | 7, _, _ | 8, _, _ | 9, _, _ | 10, _, _ =>
    match low, hl with
    | 0, _ | 1, _ | 2, _ | 3, _ | 4, _ => decide
def PSh (x : Ex) : Prop := Px.Wf x → ∀ (w : World) (v : Value), ExsIn w 0 w.heap.size x.of v → (Px.tb x).length ≤ 1000 →
  Calls Try.prog 49 #[x.val v] w fun e w' => e = .returned (.string (Px.ba (Px.tb x))) ∧ Kept w w'
set_option maxRecDepth 100000 in
set_option maxHeartbeats 1000000 in
theorem side_of (x : Ex) (H : PSh x) (hx : Px.Wf x) (w : World) (v : Value) (hv : ExsIn w 0 w.heap.size x.of v) (low : Nat) (hl : low ≤ 4) (hs : (Px.tb x).length ≤ 1000) :
    Calls Try.prog 65 #[x.val v, .int .i64 (low : Int)] w fun e w' => e = .returned (.string (Px.ba (Px.T x low))) ∧ Kept w w' := by
  obtain ⟨k, hk, k1, k2⟩ := hx.kinds
  obtain ⟨a, cap, rfl, -⟩ := hv.open
  have hlr := lvl_rnk k k1 k2 low hl
  have SH : Hid (∀ W, Kept w W → Calls Try.prog 49 #[.agg #[.int .i64 (k : Int), .int .i64 x.n, .string x.name, .slice a x.of.length cap]] W fun e w' => e = .returned (.string (Px.ba (Px.tb x))) ∧ Kept W w') := by
    intro W hW
    have := H hx W _ (hv.up (Nat.le_refl _) hW) hs
    unfold Ex.val at this
    rw [hk] at this
    exact this
  have LV : Hid (∀ W, Calls Try.prog 64 #[.int .i64 (k : Int)] W fun e w' => e = .returned (.int .i64 (lvl k)) ∧ w' = W) := level_at k k1 k2
  have HT : Hid (Px.T x low = if Px.rnk (k : Int) < low then 40 :: (Px.tb x ++ [41]) else Px.tb x) := by show Px.tpw _ _ _ = _; unfold Px.tpw; rw [hk]
  have hsz : (Px.ba (Px.tb x)).size ≤ 1000 := by rw [Px.ba_size]; exact hs
  unfold Ex.val
  rw [hk]
  clear hv
  obtain ⟨L, hL⟩ : ∃ L, lvl (k : Int) = L := ⟨_, rfl⟩
  rw [hL] at LV hlr
  clear hL
  by_cases hc : L < (low : Int)
  · have hr := hlr.1 hc
    have HE : Hid ((⟨#[40]⟩ : ByteArray) ++ Px.ba (Px.tb x) ++ ⟨#[41]⟩ = Px.ba (Px.T x low)) := by
      show _ = _
      rw [HT.out, if_pos hr, show (⟨#[40]⟩ : ByteArray) = Px.ba [40] from rfl, show (⟨#[41]⟩ : ByteArray) = Px.ba [41] from rfl, Px.ba_app, Px.ba_app]
      rfl
    clear HT hlr
    generalize Px.ba (Px.tb x) = S at *
    go_enter Try.func65, Try.ntmps65
    go_wp2_with fail
    refine (LV.out _).mono ?_
    rintro e w1 ⟨rfl, rfl⟩
    go_wp2_with fail
    refine (SH.out _ ((Kept.refl _).al _)).mono ?_
    rintro e w2 ⟨rfl, k2⟩
    have HK : Hid (Kept w w2) := ((Kept.refl _).al _).then k2
    clear k2
    go_wp2_with fail
    go_ret
    exact ⟨by rw [← HE.out]; rfl, HK.out⟩
  · have hr : ¬ Px.rnk (k : Int) < low := fun h => hc (hlr.2 h)
    have HE : Hid (Px.ba (Px.tb x) = Px.ba (Px.T x low)) := by show _ = _; rw [HT.out, if_neg hr]
    clear HT hlr
    generalize Px.ba (Px.tb x) = S at *
    go_enter Try.func65, Try.ntmps65
    go_wp2_with fail
    refine (LV.out _).mono ?_
    rintro e w1 ⟨rfl, rfl⟩
    go_wp2_with fail
    refine (SH.out _ ((Kept.refl _).al _)).mono ?_
    rintro e w2 ⟨rfl, k2⟩
    have HK : Hid (Kept w w2) := ((Kept.refl _).al _).then k2
    clear k2
    go_wp2_with fail
    go_ret
    exact ⟨by rw [← HE.out]; rfl, HK.out⟩
def Fits (a b : ByteArray) : Prop := a.size + b.size ≤ 9223372036854775807
theorem add_fit (a b : ByteArray) (w : World) (h : Fits a b) : (Op.stringOp .add a b).run Try.prog w = .ok (.string (a ++ b)) w := run_string_add_sum w a b h
attribute [local go_sem ↓] add_fit
set_option maxRecDepth 100000 in
set_option maxHeartbeats 4000000 in
theorem show_of (x : Ex) (H : ∀ y ∈ x.of, PSh y) : PSh x := by
  intro hx w v hv hs
  cases hx with
  | num n hn =>
    obtain ⟨a, cap, rfl, -⟩ := hv.open
    have DG : Hid (∀ W, Calls Try.prog 27 #[.int .i64 (n : Int)] W fun e w' => e = .returned (.string (dig n)) ∧ Kept W w') := digits_any n (by omega)
    have LV : Hid (∀ W, Calls Try.prog 64 #[.int .i64 1] W fun e w' => e = .returned (.int .i64 5) ∧ w' = W) := level_at 1 (by decide) (by decide)
    have HE : Hid (dig n = Px.ba (Px.tb (Px.numE n))) := by show _ = _; rw [Px.tb_num, dig_itoa]
    clear hv hs H
    show Calls Try.prog 49 #[.agg #[.int .i64 1, .int .i64 (n : Int), .string ⟨#[]⟩, .slice a 0 cap]] w _
    generalize dig n = S at *
    have hp : (0 : Int) ≤ (n : Int) := by omega
    go_enter Try.func49, Try.ntmps49
    go_wp2_with fail
    refine (LV.out _).mono ?_
    rintro e w1 ⟨rfl, rfl⟩
    go_wp2_with fail
    refine (DG.out _).mono ?_
    rintro e w2 ⟨rfl, k2⟩
    have HK : Hid (Kept w w2) := ((Kept.refl _).al _).then k2
    clear k2
    go_wp2_with fail
    go_ret
    exact ⟨by rw [← HE.out]; rfl, HK.out⟩
  | name t ht =>
    obtain ⟨a, cap, rfl, -⟩ := hv.open
    have LV : Hid (∀ W, Calls Try.prog 64 #[.int .i64 2] W fun e w' => e = .returned (.int .i64 5) ∧ w' = W) := level_at 2 (by decide) (by decide)
    have HE : Hid (Px.ba t = Px.ba (Px.tb (Px.nameE t))) := by show _ = _; rw [Px.tb_name]
    clear hv hs H
    show Calls Try.prog 49 #[.agg #[.int .i64 2, .int .i64 0, .string (Px.ba t), .slice a 0 cap]] w _
    generalize Px.ba t = S at *
    go_enter Try.func49, Try.ntmps49
    go_wp2_with fail
    refine (LV.out _).mono ?_
    rintro e w1 ⟨rfl, rfl⟩
    go_wp2_with fail
    go_ret
    exact ⟨by rw [← HE.out]; rfl, (Kept.refl _).al _⟩
  | minus y hy =>
    have hyo : (Px.minusE y).of = [y] := rfl
    obtain ⟨a, cap, rfl, -⟩ := hv.open
    obtain ⟨b, o, a1, n1, q1, rfl, -, hb, -, c0, c1, c2, c3, hk⟩ := hv.item (StaysD.refl _ _) 0 (by rw [hyo]; simp)
    simp only [Nat.zero_mul, Nat.add_zero] at c0 c1 c2 c3
    have c0 : w.cell? ⟨b, o, none⟩ = some (.int .i64 y.kind) := c0
    have c1 : w.cell? ⟨b, o + 1, none⟩ = some (.int .i64 y.n) := c1
    have c2 : w.cell? ⟨b, o + 2, none⟩ = some (.string y.name) := c2
    have hk : ExsIn w 0 w.heap.size y.of (.slice a1 n1 q1) := hk
    have hl4 : (Px.T y 4).length + 1 ≤ 1000 := by rw [Px.tb_minus, List.length_cons] at hs; exact hs
    have hty : (Px.tb y).length ≤ 1000 := by
      have : (Px.tb y).length ≤ (Px.T y 4).length := by show _ ≤ (Px.tpw _ _ _).length; unfold Px.tpw; split <;> simp; omega
      omega
    have SD : Hid (∀ W, Kept w W → Calls Try.prog 65 #[.agg #[.int .i64 y.kind, .int .i64 y.n, .string y.name, .slice a1 n1 q1], .int .i64 4] W fun e w' => e = .returned (.string (Px.ba (Px.T y 4))) ∧ Kept W w') := fun W hW => side_of y (H y (by rw [hyo]; exact List.mem_singleton.2 rfl)) hy W _ (hk.up (Nat.le_refl _) hW) 4 (by decide) hty
    have LV : Hid (∀ W, Calls Try.prog 64 #[.int .i64 3] W fun e w' => e = .returned (.int .i64 4) ∧ w' = W) := level_at 3 (by decide) (by decide)
    have HE : Hid ((⟨#[45]⟩ : ByteArray) ++ Px.ba (Px.T y 4) = Px.ba (Px.tb (Px.minusE y))) := by
      show _ = _
      rw [Px.tb_minus, show (⟨#[45]⟩ : ByteArray) = Px.ba [45] from rfl, Px.ba_app]
      rfl
    have hsz : (Px.ba (Px.T y 4)).size ≤ 1000 := by rw [Px.ba_size]; omega
    clear hv hs H hk hty hl4
    have B0 : Fits ⟨#[45]⟩ (Px.ba (Px.T y 4)) := by show 1 + _ ≤ _; omega
    show Calls Try.prog 49 #[.agg #[.int .i64 3, .int .i64 0, .string ⟨#[]⟩, .slice (some ⟨b, o, none⟩) 1 cap]] w _
    generalize Px.ba (Px.T y 4) = S at *
    go_enter Try.func49, Try.ntmps49
    go_wp2_with fail
    refine (LV.out _).mono ?_
    rintro e w1 ⟨rfl, rfl⟩
    go_wp2_with fail
    refine (SD.out _ ((Kept.refl _).al _)).mono ?_
    rintro e w2 ⟨rfl, k2⟩
    have HK : Hid (Kept w w2) := ((Kept.refl _).al _).then k2
    clear k2
    go_wp2_with fail
    go_ret
    exact ⟨by rw [← HE.out]; rfl, HK.out⟩
  | bin k y z h4 h10 hy hz =>
    have hyo : (Px.binE k y z).of = [y, z] := rfl
    obtain ⟨a, cap, rfl, -⟩ := hv.open
    obtain ⟨b, o, a1, n1, q1, rfl, -, hb, -, c0, c1, c2, c3, hk⟩ := hv.item (StaysD.refl _ _) 0 (by rw [hyo]; simp)
    obtain ⟨b', o', a2, n2, q2, eb, -, -, -, d0, d1, d2, d3, hk2⟩ := hv.item (StaysD.refl _ _) 1 (by rw [hyo]; simp)
    cases eb
    simp only [Nat.zero_mul, Nat.add_zero, Nat.one_mul] at c0 c1 c2 c3 d0 d1 d2 d3
    have c0 : w.cell? ⟨b, o, none⟩ = some (.int .i64 y.kind) := c0
    have c1 : w.cell? ⟨b, o + 1, none⟩ = some (.int .i64 y.n) := c1
    have c2 : w.cell? ⟨b, o + 2, none⟩ = some (.string y.name) := c2
    have d0 : w.cell? ⟨b, o + 4, none⟩ = some (.int .i64 z.kind) := d0
    have d1 : w.cell? ⟨b, o + 4 + 1, none⟩ = some (.int .i64 z.n) := d1
    have d2 : w.cell? ⟨b, o + 4 + 2, none⟩ = some (.string z.name) := d2
    have hk : ExsIn w 0 w.heap.size y.of (.slice a1 n1 q1) := hk
    have hk2 : ExsIn w 0 w.heap.size z.of (.slice a2 n2 q2) := hk2
    obtain ⟨r1, r2⟩ := Px.rnk_bin k h4 h10
    obtain ⟨r, hr⟩ : ∃ r, Px.rnk (k : Int) = r := ⟨_, rfl⟩
    have hlv : lvl (k : Int) = (r : Int) := by
      rw [← hr]
      have : ∀ k : Nat, 4 ≤ k → k ≤ 10 → lvl (k : Int) = (Px.rnk (k : Int) : Int) := Px.seven (by decide) (by decide) (by decide) (by decide) (by decide) (by decide) (by decide)
      exact this k h4 h10
    obtain ⟨lf, hlf⟩ : ∃ lf : Nat, max (Px.rnk (k : Int)) 2 = lf := ⟨_, rfl⟩
    rw [Px.tb_bin k y z h4, hlf, hr] at hs
    simp only [List.length_append, List.length_cons] at hs
    have tT : ∀ (u : Ex) (m : Nat), (Px.tb u).length ≤ (Px.T u m).length := fun u m => by show _ ≤ (Px.tpw _ _ _).length; unfold Px.tpw; split <;> simp; omega
    have t1 := tT y lf
    have t2 := tT z (r + 1)
    rw [hr] at r1 r2 hlf
    have SD1 : Hid (∀ W, Kept w W → Calls Try.prog 65 #[.agg #[.int .i64 y.kind, .int .i64 y.n, .string y.name, .slice a1 n1 q1], .int .i64 (lf : Int)] W fun e w' => e = .returned (.string (Px.ba (Px.T y lf))) ∧ Kept W w') := fun W hW => side_of y (H y (by rw [hyo]; simp)) hy W _ (hk.up (Nat.le_refl _) hW) lf (by omega) (by omega)
    have SD2 : Hid (∀ W, Kept w W → Calls Try.prog 65 #[.agg #[.int .i64 z.kind, .int .i64 z.n, .string z.name, .slice a2 n2 q2], .int .i64 ((r : Int) + 1)] W fun e w' => e = .returned (.string (Px.ba (Px.T z (r + 1)))) ∧ Kept W w') := fun W hW => side_of z (H z (by rw [hyo]; simp)) hz W _ (hk2.up (Nat.le_refl _) hW) (r + 1) (by omega) (by omega)
    have LV : Hid (∀ W, Calls Try.prog 64 #[.int .i64 (k : Int)] W fun e w' => e = .returned (.int .i64 (r : Int)) ∧ w' = W) := fun W => by have := level_at k (by omega) h10 W; rwa [hlv] at this
    have SG : Hid (∀ W, Calls Try.prog 66 #[.int .i64 (k : Int)] W fun e w' => e = .returned (.string (Px.ba (Px.sgn (k : Int)))) ∧ w' = W) := fun W => sign_at k h4 h10 W
    have HE : Hid ((((Px.ba (Px.T y lf) ++ ⟨#[32]⟩) ++ Px.ba (Px.sgn (k : Int))) ++ ⟨#[32]⟩) ++ Px.ba (Px.T z (r + 1)) = Px.ba (Px.tb (Px.binE k y z))) := by
      show _ = _
      rw [Px.tb_bin k y z h4, hr, hlf, show (⟨#[32]⟩ : ByteArray) = Px.ba [32] from rfl, Px.ba_app, Px.ba_app, Px.ba_app, Px.ba_app]
      congr 1
      simp
    have z1 : (Px.ba (Px.T y lf)).size ≤ 1000 := by rw [Px.ba_size]; omega
    have z2 : (Px.ba (Px.T z (r + 1))).size ≤ 1000 := by rw [Px.ba_size]; omega
    have z3 : (Px.ba (Px.sgn (k : Int))).size ≤ 1000 := by rw [Px.ba_size]; omega
    have k1 : ((k : Int) == 1) = false := by rw [beq_eq_false_iff_ne]; omega
    have k2 : ((k : Int) == 2) = false := by rw [beq_eq_false_iff_ne]; omega
    have k3 : ((k : Int) == 3) = false := by rw [beq_eq_false_iff_ne]; omega
    have g1 : (1 : Int) ≤ (r : Int) := by omega
    have g2 : (r : Int) ≤ 3 := by omega
    have HLF : Hid (max r 2 = lf) := hlf
    clear hv hs H hk hk2 t1 t2 hlv hlf hr tT
    show Calls Try.prog 49 #[.agg #[.int .i64 (k : Int), .int .i64 0, .string ⟨#[]⟩, .slice (some ⟨b, o, none⟩) 2 cap]] w _
    generalize Px.ba (Px.T y lf) = S1 at *
    generalize Px.ba (Px.T z (r + 1)) = S2 at *
    generalize Px.ba (Px.sgn (k : Int)) = S3 at *
    have A1 : (S1 ++ ⟨#[32]⟩ : ByteArray).size ≤ 1001 := by rw [ByteArray.size_append]; show S1.size + 1 ≤ _; omega
    have A2 : ((S1 ++ ⟨#[32]⟩) ++ S3 : ByteArray).size ≤ 2001 := by rw [ByteArray.size_append]; omega
    have A3 : (((S1 ++ ⟨#[32]⟩) ++ S3) ++ ⟨#[32]⟩ : ByteArray).size ≤ 2002 := by rw [ByteArray.size_append]; show _ + 1 ≤ _; omega
    have B1 : Fits S1 ⟨#[32]⟩ := by show _ + 1 ≤ _; omega
    have B2 : Fits (S1 ++ ⟨#[32]⟩) S3 := by unfold Fits; omega
    have B3 : Fits ((S1 ++ ⟨#[32]⟩) ++ S3) ⟨#[32]⟩ := by show _ + 1 ≤ _; omega
    have B4 : Fits (((S1 ++ ⟨#[32]⟩) ++ S3) ++ ⟨#[32]⟩) S2 := by unfold Fits; omega
    clear A1 A2 A3
    by_cases hr1 : r = 1
    · subst hr1
      obtain rfl : lf = 2 := by have := HLF.out; omega
      go_enter Try.func49, Try.ntmps49
      go_wp2_with fail
      refine (LV.out _).mono ?_
      rintro e w1 ⟨rfl, rfl⟩
      go_wp2_with fail
      obtain ⟨W1, hW1⟩ : ∃ W1, w.alloc (.cells #[.int .i64 (k : Int), .int .i64 0, .string ⟨#[]⟩, .slice (some ⟨b, o, none⟩) 2 cap] 53) = W1 := ⟨_, rfl⟩
      have KW : Hid (Kept w W1) := by rw [← hW1]; exact (Kept.refl _).al _
      have e0 : W1.cell? ⟨w.heap.size, 0, none⟩ = some (.int .i64 (k : Int)) := by rw [← hW1]; simp
      have e3 : W1.cell? ⟨w.heap.size, 3, none⟩ = some (.slice (some ⟨b, o, none⟩) 2 cap) := by rw [← hW1]; simp
      rw [hW1]
      clear hW1
      have c0 := KW.out.cellS c0
      have c1 := KW.out.cellS c1
      have c2 := KW.out.cellS c2
      have c3 := KW.out.cellS c3
      have d0 := KW.out.cellS d0
      have d1 := KW.out.cellS d1
      have d2 := KW.out.cellS d2
      have d3 := KW.out.cellS d3
      go_region_held3 (fun w' => Hid (Kept W1 w') ∧ w'.cell? ⟨w.heap.size, 0, none⟩ = some (.int .i64 (k : Int)) ∧ w'.cell? ⟨w.heap.size, 3, none⟩ = some (.slice (some ⟨b, o, none⟩) 2 cap) ∧
            w'.cell? ⟨b, o, none⟩ = some (.int .i64 y.kind) ∧ w'.cell? ⟨b, o + 1, none⟩ = some (.int .i64 y.n) ∧ w'.cell? ⟨b, o + 2, none⟩ = some (.string y.name) ∧ w'.cell? ⟨b, o + 3, none⟩ = some (.slice a1 n1 q1) ∧
            w'.cell? ⟨b, o + 4, none⟩ = some (.int .i64 z.kind) ∧ w'.cell? ⟨b, o + 4 + 1, none⟩ = some (.int .i64 z.n) ∧ w'.cell? ⟨b, o + 4 + 2, none⟩ = some (.string z.name) ∧ w'.cell? ⟨b, o + 4 + 3, none⟩ = some (.slice a2 n2 q2))
          ((first | (have KK : Kept W1 _ := (((Kept.refl W1).dr).then kw).then kw2; exact ⟨KK, KK.cellS e0, KK.cellS e3, KK.cellS c0, KK.cellS c1, KK.cellS c2, KK.cellS c3, KK.cellS d0, KK.cellS d1, KK.cellS d2, KK.cellS d3⟩) | (have KK : Kept W1 _ := ((Kept.refl W1).dr).then kw; exact ⟨KK, KK.cellS e0, KK.cellS e3, KK.cellS c0, KK.cellS c1, KK.cellS c2, KK.cellS c3, KK.cellS d0, KK.cellS d1, KK.cellS d2, KK.cellS d3⟩) | (have KK : Kept W1 _ := (Kept.refl W1).dr; exact ⟨KK, KK.cellS e0, KK.cellS e3, KK.cellS c0, KK.cellS c1, KK.cellS c2, KK.cellS c3, KK.cellS d0, KK.cellS d1, KK.cellS d2, KK.cellS d3⟩)))
          (first | (go_at_call_of 65 y.name; refine (SD1.out _ (KW.out.then (Kept.refl W1).dr)).mono ?_; rintro e w3 ⟨rfl, kw⟩) | (go_at_call 66; refine (SG.out _).mono ?_; rintro e w5 ⟨rfl, rfl⟩) | (go_at_call_of 65 z.name; refine (SD2.out _ (KW.out.then (((Kept.refl W1).dr).then kw))).mono ?_; rintro e w4 ⟨rfl, kw2⟩))
      rename_i hH
      clear hH
      have KF : Hid (Kept w w4) := KW.out.then ((((Kept.refl W1).dr).then kw).then kw2)
      clear kw kw2 e0 e3 c0 c1 c2 c3 d0 d1 d2 d3
      go_wp2_with fail
      go_ret
      exact ⟨by rw [← HE.out]; rfl, KF.out⟩
    · obtain rfl : lf = r := by have := HLF.out; omega
      have hr1' : ((lf : Int) == 1) = false := by rw [beq_eq_false_iff_ne]; omega
      have hwr : IntKind.i64.wrap ((lf : Int) + 1) = (lf : Int) + 1 := by rw [IntKind.wrap_i64]; omega
      go_enter Try.func49, Try.ntmps49
      go_wp2_with fail
      refine (LV.out _).mono ?_
      rintro e w1 ⟨rfl, rfl⟩
      go_wp2_with fail
      obtain ⟨W1, hW1⟩ : ∃ W1, w.alloc (.cells #[.int .i64 (k : Int), .int .i64 0, .string ⟨#[]⟩, .slice (some ⟨b, o, none⟩) 2 cap] 53) = W1 := ⟨_, rfl⟩
      have KW : Hid (Kept w W1) := by rw [← hW1]; exact (Kept.refl _).al _
      have e0 : W1.cell? ⟨w.heap.size, 0, none⟩ = some (.int .i64 (k : Int)) := by rw [← hW1]; simp
      have e3 : W1.cell? ⟨w.heap.size, 3, none⟩ = some (.slice (some ⟨b, o, none⟩) 2 cap) := by rw [← hW1]; simp
      rw [hW1]
      clear hW1
      have c0 := KW.out.cellS c0
      have c1 := KW.out.cellS c1
      have c2 := KW.out.cellS c2
      have c3 := KW.out.cellS c3
      have d0 := KW.out.cellS d0
      have d1 := KW.out.cellS d1
      have d2 := KW.out.cellS d2
      have d3 := KW.out.cellS d3
      go_region_held3 (fun w' => Hid (Kept W1 w') ∧ w'.cell? ⟨w.heap.size, 0, none⟩ = some (.int .i64 (k : Int)) ∧ w'.cell? ⟨w.heap.size, 3, none⟩ = some (.slice (some ⟨b, o, none⟩) 2 cap) ∧
            w'.cell? ⟨b, o, none⟩ = some (.int .i64 y.kind) ∧ w'.cell? ⟨b, o + 1, none⟩ = some (.int .i64 y.n) ∧ w'.cell? ⟨b, o + 2, none⟩ = some (.string y.name) ∧ w'.cell? ⟨b, o + 3, none⟩ = some (.slice a1 n1 q1) ∧
            w'.cell? ⟨b, o + 4, none⟩ = some (.int .i64 z.kind) ∧ w'.cell? ⟨b, o + 4 + 1, none⟩ = some (.int .i64 z.n) ∧ w'.cell? ⟨b, o + 4 + 2, none⟩ = some (.string z.name) ∧ w'.cell? ⟨b, o + 4 + 3, none⟩ = some (.slice a2 n2 q2))
          ((first | (have KK : Kept W1 _ := (((Kept.refl W1).dr).then kw).then kw2; exact ⟨KK, KK.cellS e0, KK.cellS e3, KK.cellS c0, KK.cellS c1, KK.cellS c2, KK.cellS c3, KK.cellS d0, KK.cellS d1, KK.cellS d2, KK.cellS d3⟩) | (have KK : Kept W1 _ := ((Kept.refl W1).dr).then kw; exact ⟨KK, KK.cellS e0, KK.cellS e3, KK.cellS c0, KK.cellS c1, KK.cellS c2, KK.cellS c3, KK.cellS d0, KK.cellS d1, KK.cellS d2, KK.cellS d3⟩) | (have KK : Kept W1 _ := (Kept.refl W1).dr; exact ⟨KK, KK.cellS e0, KK.cellS e3, KK.cellS c0, KK.cellS c1, KK.cellS c2, KK.cellS c3, KK.cellS d0, KK.cellS d1, KK.cellS d2, KK.cellS d3⟩)))
          (first | (go_at_call_of 65 y.name; refine (SD1.out _ (KW.out.then (Kept.refl W1).dr)).mono ?_; rintro e w3 ⟨rfl, kw⟩) | (go_at_call 66; refine (SG.out _).mono ?_; rintro e w5 ⟨rfl, rfl⟩) | (go_at_call_of 65 z.name; refine (SD2.out _ (KW.out.then (((Kept.refl W1).dr).then kw))).mono ?_; rintro e w4 ⟨rfl, kw2⟩))
      rename_i hH
      clear hH
      have KF : Hid (Kept w w4) := KW.out.then ((((Kept.refl W1).dr).then kw).then kw2)
      clear kw kw2 e0 e3 c0 c1 c2 c3 d0 d1 d2 d3
      go_wp2_with fail
      go_ret
      exact ⟨by rw [← HE.out]; rfl, KF.out⟩
theorem show_any (x : Ex) : PSh x := Ex.ind show_of x
end Go.Proofs.Ytbfikeegacapjaa
