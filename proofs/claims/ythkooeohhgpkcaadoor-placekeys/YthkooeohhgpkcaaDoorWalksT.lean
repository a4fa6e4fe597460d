/- What Digits and Spot of the statements' own text answers, at whatever memory. -/
import Derived.Test.YthkooeohhgpkcaaDoorWalksE
import Derived.Deep.RegionWith
namespace Go.Proofs.YthkooeohhgpkcaaDoor
open Go.RowKit

theorem conv_one (W : World) (b d : Nat) (hd : d < 10) (hc : W.cell? ⟨b, 0, none⟩ = some (.int .u8 (48 + (d : Int)))) :
    (convert 47 9 (.slice (some ⟨b, 0, none⟩) 1 1)).run Tryd.prog W = .ok (.string ⟨#[UInt8.ofNat (48 + d)]⟩) W := by
  have e : (UInt8.ofNat (48 + d)).toNat = 48 + d := by rw [UInt8.toNat_ofNat']; omega
  have := run_convert_bytes_back (P := Tryd.prog) W 47 9 5 ⟨b, 0, none⟩ 1 [UInt8.ofNat (48 + d)] (by kernel_rfl) (by kernel_rfl) (by kernel_rfl) (fun j hj => by
    have hj0 : j = 0 := by simp at hj; exact hj
    subst hj0
    simp only [List.getElem_cons_zero]
    rw [e]
    show W.cell? ⟨b, 0, none⟩ = _
    rw [hc]
    congr 2)
  exact this

theorem bcell {W w1 : World} (hb : Below W.heap.size W w1) : (∀ b o, b < W.heap.size → w1.cell? ⟨b, o, none⟩ = W.cell? ⟨b, o, none⟩) ∧ (∀ b o, b < W.heap.size → w1.frozen? ⟨b, o, none⟩ = W.frozen? ⟨b, o, none⟩) :=
  ⟨fun b o h => hb.cell (p := ⟨b, o, none⟩) h, fun b o h => hb.frozen (p := ⟨b, o, none⟩) h⟩

set_option maxHeartbeats 400000 in
theorem digits_small (n : Nat) (hn : n < 10) (w : World) :
    Calls Tryd.prog 16 #[.int .i64 (n : Int)] w fun e w' => e = .returned (.string (dig n)) ∧ Kept w w' := by
  have h1 : (n : Int) < 10 := by omega
  have h0 : 0 ≤ (n : Int) := by omega
  have hv := conv_one (w.alloc (.cells #[.int .u8 (48 + (n : Int))] 5)) w.heap.size n hn (by simp)
  rw [← dig_one n hn] at hv
  generalize dig n = S at *
  go_enter Tryd.func16, Tryd.ntmps16
  go_wp2
  go_ret
  exact ⟨rfl, (Kept.refl w).alloc (Nat.le_refl _) _⟩

set_option maxHeartbeats 1000000 in
theorem digits_walk (n q r : Int) (S C : ByteArray) (w : World) (h1 : 10 ≤ n) (hq : IntKind.i64.wrap (n.tdiv 10) = q) (hr : n.tmod 10 = r) (h3 : IntKind.i64.wrap (48 + r) = 48 + r) (h4 : IntKind.u8.wrap (48 + r) = 48 + r)
    (sz : S.size ≤ 20) (sz2 : C.size ≤ 1)
    (ih : ∀ w, Calls Tryd.prog 16 #[.int .i64 q] w fun e w' => e = .returned (.string S) ∧ Kept w w')
    (hv : ∀ (W : World) (b : Nat), W.cell? ⟨b, 0, none⟩ = some (.int .u8 (48 + r)) → (convert 47 9 (.slice (some ⟨b, 0, none⟩) 1 1)).run Tryd.prog W = .ok (.string C) W) :
    Calls Tryd.prog 16 #[.int .i64 n] w fun e w' => e = .returned (.string (S ++ C)) ∧ Kept w w' := by
  have IH : Hid (∀ w, _) := ih
  clear ih
  have hd : decide (n < 10) = false := decide_eq_false (by omega)
  go_enter Tryd.func16, Tryd.ntmps16
  go_wp2_with fail
  go_region_with (go_at_call 16; refine (IH.out _).mono ?_; rintro e w1 ⟨rfl, hb⟩; obtain ⟨hc, hf⟩ := bcell hb)
  all_goals
    go_wp2
    go_ret
    refine ⟨rfl, ?_⟩
    first
      | exact ((Kept.refl w).drew.then hb).then ((Kept.refl _).alloc (Nat.le_refl _) _)
      | exact (Kept.drew ((Kept.refl w).alloc (Nat.le_refl _) _)).then hb

theorem digits_any (n : Nat) : n ≤ 9223372036854775807 → ∀ w : World, Calls Tryd.prog 16 #[.int .i64 (n : Int)] w fun e w' => e = .returned (.string (dig n)) ∧ Kept w w' := by
  induction n using Nat.strongRecOn with
  | _ n ih =>
    intro hn w
    by_cases h : n < 10
    · exact digits_small n h w
    · have e1 : ((n : Int).tdiv 10) = ((n / 10 : Nat) : Int) := by rw [Int.tdiv_eq_ediv_of_nonneg (by omega)]; rfl
      have e2 : ((n : Int).tmod 10) = ((n % 10 : Nat) : Int) := by rw [Int.tmod_eq_emod_of_nonneg (by omega)]; rfl
      have D : dig n = dig (n / 10) ++ ⟨#[UInt8.ofNat (48 + n % 10)]⟩ := by
        unfold dig
        rw [dig_step n (by omega)]
        apply ByteArray.ext
        rw [ByteArray.data_append]
        simp
      rw [D]
      refine digits_walk (n : Int) ((n / 10 : Nat) : Int) ((n % 10 : Nat) : Int) _ _ w (by omega) ?_ e2 ?_ ?_ (dig_size (n / 10) (by omega)) (Nat.le_refl _) (ih (n / 10) (by omega) (by omega)) (fun W b hc => conv_one W b (n % 10) (by omega) hc)
      · rw [e1, IntKind.wrap_i64]; omega
      · rw [IntKind.wrap_i64]; omega
      · rw [IntKind.wrap_u8]; omega

set_option maxHeartbeats 1000000 in
theorem spot_any (s : ByteArray) (a : Int) (w : World) (hs : s.size ≤ 281474976710656) :
    Calls Tryd.prog 15 #[.string s, .int .i64 a] w fun e w' => e = .returned (.tuple #[.int .i64 ((Sp.spot (s.data.toList.take (clampAt a s.size))).1 : Nat), .int .i64 ((Sp.spot (s.data.toList.take (clampAt a s.size))).2 : Nat)]) ∧ w' = w := by
  obtain ⟨n, hn⟩ : ∃ n : Nat, clampAt a s.size = n := ⟨_, rfl⟩
  rw [hn]
  have hnl : n ≤ s.size := by unfold clampAt at hn; omega
  have hW : Hid (∀ w, Calls Tryd.prog 23 #[.int .i64 a, .int .i64 0, .int .i64 (s.size : Int)] w fun e w' => e = .returned (.int .i64 (n : Int)) ∧ w' = w) := by
    intro w
    have := within_any a 0 (s.size : Int) w
    rwa [show max 0 (min (s.size : Int) a) = (n : Int) by unfold clampAt at hn; omega] at this
  clear hn
  go_enter Tryd.func15, Tryd.ntmps15
  go_wp2_with (go_at_call 23; refine (hW.out _).mono ?_; rintro e w' ⟨rfl, rfl⟩)
  go_loop [6, 7, 8] (fun l c i => ∃ k : Nat, k ≤ n ∧ i = .int .i64 k ∧ l = .int .i64 ((Sp.spot (s.data.toList.take k)).1 : Nat) ∧ c = .int .i64 ((Sp.spot (s.data.toList.take k)).2 : Nat)) (fun _ _ i => n - (intOf i).toNat)
  case atStart => exact ⟨0, Nat.zero_le _, rfl, rfl, rfl⟩
  case round =>
    obtain ⟨k, hk, rfl, rfl, rfl⟩ := hrel
    by_cases hlt : k < n
    · have hl : k < s.data.toList.length := by simp; omega
      have hks : k < s.size := by omega
      have e2 : s.data.toList[k] = s[k] := by rw [Array.getElem_toList]; rfl
      have ES := Sp.spot_succ s.data.toList k hl
      rw [e2] at ES
      have b := Sp.spot_le (s.data.toList.take k)
      have b2 : (s.data.toList.take k).length ≤ k := List.length_take_le _ _
      generalize Sp.spot (s.data.toList.take k) = p at *
      obtain ⟨l, c⟩ := p
      simp only at b
      have HS : Hid (Sp.spot (s.data.toList.take (k + 1)) = Sp.on (l, c) s[k]) := ES
      have bl : (l : Int) ≤ 281474976710658 := by omega
      have bc : (c : Int) ≤ 281474976710658 := by omega
      clear ES e2 b b2 hl
      by_cases hc : s[k] = 10
      · have t : (((s[k]).toNat : Int) == 10) = true := by rw [hc]; rfl
        have HC : Hid (s[k] = 10) := hc
        clear hc
        go_wp2
        go_round
        case rel => exact ⟨k + 1, by omega, by go_num, by rw [HS.out]; simp [Sp.on, HC.out], by rw [HS.out]; simp [Sp.on, HC.out]⟩
        case measure => simp [intOf]; omega
      · have t : (((s[k]).toNat : Int) == 10) = false := by rw [beq_eq_false_iff_ne]; intro e; apply hc; apply UInt8.toNat_inj.1; show _ = 10; omega
        have HC : Hid (¬ s[k] = 10) := hc
        clear hc
        go_wp2
        go_round
        case rel => exact ⟨k + 1, by omega, by go_num, by rw [HS.out]; simp [Sp.on, HC.out], by rw [HS.out]; simp [Sp.on, HC.out]⟩
        case measure => simp [intOf]; omega
    · have hkn : k = n := by omega
      subst hkn
      go_wp2
      go_ret2
      exact ⟨rfl, rfl⟩

end Go.Proofs.YthkooeohhgpkcaaDoor
