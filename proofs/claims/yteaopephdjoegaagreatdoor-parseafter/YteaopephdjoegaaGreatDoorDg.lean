/- The reference's Digits, tabs, level, sign. -/
import Derived.Test.YteaopephdjoegaaGreatDoorHd
import Derived.Deep.RegionWith
namespace Go.Proofs.YteaopephdjoegaaGreatDoor
open Go.RowKit

theorem conv_one (W : World) (b d : Nat) (hd : d < 10) (hc : W.cell? ⟨b, 0, none⟩ = some (.int .u8 (48 + (d : Int)))) :
    (convert 114 9 (.slice (some ⟨b, 0, none⟩) 1 1)).run Tryz.prog W = .ok (.string ⟨#[UInt8.ofNat (48 + d)]⟩) W := by
  have e : (UInt8.ofNat (48 + d)).toNat = 48 + d := by rw [UInt8.toNat_ofNat']; omega
  have := run_convert_bytes_back (P := Tryz.prog) W 114 9 5 ⟨b, 0, none⟩ 1 [UInt8.ofNat (48 + d)] (by kernel_rfl) (by kernel_rfl) (by kernel_rfl) (fun j hj => by
    have hj0 : j = 0 := by simp at hj; exact hj
    subst hj0
    simp only [List.getElem_cons_zero]
    rw [e]
    show W.cell? ⟨b, 0, none⟩ = _
    rw [hc]
    congr 2)
  exact this

def dig (n : Nat) : ByteArray := ⟨(Lib.decDigits n).toArray⟩
theorem dig_itoa (n : Nat) : dig n = Px.ba (Lib.itoa (n : Int)) := by rw [Lib.itoa_nonneg]; rfl
theorem dig_one (i : Nat) (h : i < 10) : dig i = ⟨#[UInt8.ofNat (48 + i)]⟩ := by unfold dig; rw [Lib.decDigits_one h]
theorem dig_step (n : Nat) (h : ¬ n < 10) : Lib.decDigits n = Lib.decDigits (n / 10) ++ [UInt8.ofNat (48 + n % 10)] := by rw [Lib.decDigits, dif_neg h]
theorem dig_len (n : Nat) (h : n < 9223372036854775808) : (dig n).size ≤ 21 := by
  rw [dig_itoa]
  have := Lib.itoa_length_le (n : Int) (by omega) (by omega)
  show (Lib.itoa (n : Int)).toArray.size ≤ 21
  rw [List.size_toArray]; omega

set_option maxHeartbeats 400000 in
set_option maxRecDepth 100000 in
theorem digits_small (n : Nat) (hn : n < 10) (w : World) :
    Calls Tryz.prog 34 #[.int .i64 (n : Int)] w fun e w' => e = .returned (.string (dig n)) ∧ Kept w w' := by
  have h1 : (n : Int) < 10 := by omega
  have h0 : 0 ≤ (n : Int) := by omega
  have hv := conv_one (w.alloc (.cells #[.int .u8 (48 + (n : Int))] 5)) w.heap.size n hn (by simp)
  rw [← dig_one n hn] at hv
  generalize dig n = S at *
  go_enter Tryz.func34, Tryz.ntmps34
  go_wp2
  go_ret
  exact ⟨rfl, (Kept.refl w).alloc (Nat.le_refl _) _⟩

set_option maxHeartbeats 1000000 in
set_option maxRecDepth 100000 in
theorem digits_walk (n q r : Int) (S C : ByteArray) (w : World) (h1 : 10 ≤ n) (hq : IntKind.i64.wrap (n.tdiv 10) = q) (hr : n.tmod 10 = r) (h3 : IntKind.i64.wrap (48 + r) = 48 + r) (h4 : IntKind.u8.wrap (48 + r) = 48 + r)
    (sz : S.size ≤ 21) (sz2 : C.size ≤ 1)
    (ih : ∀ w, Calls Tryz.prog 34 #[.int .i64 q] w fun e w' => e = .returned (.string S) ∧ Kept w w')
    (hv : ∀ (W : World) (b : Nat), W.cell? ⟨b, 0, none⟩ = some (.int .u8 (48 + r)) → (convert 114 9 (.slice (some ⟨b, 0, none⟩) 1 1)).run Tryz.prog W = .ok (.string C) W) :
    Calls Tryz.prog 34 #[.int .i64 n] w fun e w' => e = .returned (.string (S ++ C)) ∧ Kept w w' := by
  have IH : Hid (∀ w, _) := ih
  clear ih
  have hd : decide (n < 10) = false := decide_eq_false (by omega)
  go_enter Tryz.func34, Tryz.ntmps34
  go_wp2_with fail
  go_region_with (go_at_call 34; refine (IH.out _).mono ?_; rintro e w1 ⟨rfl, hb⟩; obtain ⟨hc, hf⟩ := bcell hb)
  all_goals
    go_wp2
    go_ret
    refine ⟨rfl, ?_⟩
    first
      | exact ((Kept.refl w).drew.then hb).then ((Kept.refl _).alloc (Nat.le_refl _) _)
      | exact (Kept.drew ((Kept.refl w).alloc (Nat.le_refl _) _)).then hb

theorem digits_any (n : Nat) : n ≤ 9223372036854775807 → ∀ w : World, Calls Tryz.prog 34 #[.int .i64 (n : Int)] w fun e w' => e = .returned (.string (dig n)) ∧ Kept w w' := by
  induction n using Nat.strongRecOn with
  | _ n ih =>
    intro hn w
    by_cases h : n < 10
    · exact digits_small n h w
    · have e1 : ((n : Int).tdiv 10) = ((n / 10 : Nat) : Int) := by rw [Int.tdiv_eq_ediv_of_nonneg (by omega)]; rfl
      have e2 : ((n : Int).tmod 10) = ((n % 10 : Nat) : Int) := by rw [Int.tmod_eq_emod_of_nonneg (by omega)]; rfl
      have D : dig n = dig (n / 10) ++ ⟨#[UInt8.ofNat (48 + n % 10)]⟩ := by
        unfold dig
        rw [dig_step n (by omega)]
        apply ByteArray.ext
        rw [ByteArray.data_append]
        simp
      rw [D]
      refine digits_walk (n : Int) ((n / 10 : Nat) : Int) ((n % 10 : Nat) : Int) _ _ w (by omega) ?_ e2 ?_ ?_ (dig_len (n / 10) (by omega)) (Nat.le_refl _) (ih (n / 10) (by omega) (by omega)) (fun W b hc => conv_one W b (n % 10) (by omega) hc)
      · rw [e1, IntKind.wrap_i64]; omega
      · rw [IntKind.wrap_i64]; omega
      · rw [IntKind.wrap_u8]; omega

def tabsB (d : Nat) : ByteArray := Px.ba (List.replicate d 9)
theorem tabsB_size (d : Nat) : (tabsB d).size = d := by unfold tabsB Px.ba; simp [ByteArray.size]
theorem tabsB_succ (d : Nat) : (⟨#[9]⟩ : ByteArray) ++ tabsB d = tabsB (d + 1) := by
  unfold tabsB Px.ba
  apply ByteArray.ext
  rw [ByteArray.data_append, List.replicate_succ]
  simp
set_option maxRecDepth 100000 in
theorem tabs_any (d : Nat) : d ≤ 100 → ∀ w : World, Calls Tryz.prog 55 #[.int .i64 (d : Int)] w fun e w' => e = .returned (.string (tabsB d)) ∧ w' = w := by
  induction d with
  | zero =>
    intro _ w
    go_enter Tryz.func55, Tryz.ntmps55
    go_wp2_with fail
    go_ret
    exact ⟨rfl, rfl⟩
  | succ d ih =>
    intro hd w
    have IH : Hid (∀ w, Calls Tryz.prog 55 #[.int .i64 (d : Int)] w fun e w' => e = .returned (.string (tabsB d)) ∧ w' = w) := fun w => ih (by omega) w
    have hs := tabsB_size d
    have HE : Hid ((⟨#[9]⟩ : ByteArray) ++ tabsB d = tabsB (d + 1)) := tabsB_succ d
    have hp : ¬ ((d : Int) + 1 ≤ 0) := by omega
    have hw : (((d + 1 : Nat) : Int)) = (d : Int) + 1 := by omega
    rw [hw]
    generalize tabsB d = S at *
    clear ih hw
    go_enter Tryz.func55, Tryz.ntmps55
    go_wp2_with fail
    refine (IH.out _).mono ?_
    rintro e w' ⟨rfl, rfl⟩
    go_wp2_with fail
    go_ret
    exact ⟨by rw [← HE.out]; rfl, rfl⟩

def lvl (k : Int) : Int := if k = 9 ∨ k = 10 then 1 else if k = 4 ∨ k = 5 then 2 else if k = 6 ∨ k = 7 ∨ k = 8 then 3 else if k = 3 then 4 else if k = 1 ∨ k = 2 then 5 else 0
set_option maxRecDepth 100000 in
theorem level_at (k : Nat) (h1 : 1 ≤ k) (h2 : k ≤ 10) (w : World) : Calls Tryz.prog 76 #[.int .i64 (k : Int)] w fun e w' => e = .returned (.int .i64 (lvl k)) ∧ w' = w := by
  match k, h1, h2 with
  | 1, _, _ | 2, _, _ | 3, _, _ | 4, _, _ | 5, _, _ | 6, _, _ | 7, _, _ | 8, _, _ | 9, _, _ | 10, _, _ =>
    go_enter Tryz.func76, Tryz.ntmps76
    go_wp2_with fail
    go_ret
    exact ⟨rfl, rfl⟩
set_option maxRecDepth 100000 in
theorem sign_at (k : Nat) (h1 : 4 ≤ k) (h2 : k ≤ 10) (w : World) : Calls Tryz.prog 78 #[.int .i64 (k : Int)] w fun e w' => e = .returned (.string (Px.ba (Px.sgn (k : Int)))) ∧ w' = w := by
  match k, h1, h2 with
  | 4, _, _ | 5, _, _ | 6, _, _ | 7, _, _ | 8, _, _ | 9, _, _ | 10, _, _ =>
    go_enter Tryz.func78, Tryz.ntmps78
    go_wp2_with fail
    go_ret
    exact ⟨rfl, rfl⟩
#print axioms digits_any
#print axioms sign_at
end Go.Proofs.YteaopephdjoegaaGreatDoor
