/- Nm8 -/
import Derived.Test.YtdodpeneehbbkabZNl

namespace Go.Proofs.Ytdodpeneehbbkab
open Go.RowKit
attribute [local go_sem] run_store_complex
set_option maxRecDepth 100000 in
set_option maxHeartbeats 4000000 in
theorem namesKnown_row (w : World) : Calls Try.prog 3 #[] w fun e w' => e = .returned (.bool true) ∧ Kept w w' := by
  have HKN : Hid (∀ W, Calls Try.prog 10 #[] W fun e w' => e = .returned (.bool true) ∧ Kept W w') := fun W => known_any W
  have HRD : Hid (∀ (s : ByteArray) (_ : s.size ≤ 1125899906842624) (r : Option (Nat × Nat)) (_ : ckOf s = some r) (W : World), Calls Try.prog 8 #[.string s] W fun e w1 => ∃ (a1 : Option Addr) (n1 q1 : Nat) (a2 : Option Addr) (n2 q2 : Nat), e = .returned (.agg #[.slice a1 n1 q1, .slice a2 n2 q2]) ∧ Hid (Kept W w1 ∧ (∀ X, Kept w1 X → Calls Try.prog 7 #[.agg #[.slice a1 n1 q1, .slice a2 n2 q2]] X fun e w' => e = .returned (Nf.told r) ∧ Kept X w'))) := by
    intro s hs r hr W
    obtain ⟨d, hd⟩ := ck_dec s r hr
    refine (read_check s hs r hr d hd W).mono ?_
    rintro e w1 ⟨a1, n1, q1, a2, n2, q2, rfl, H⟩
    exact ⟨a1, n1, q1, a2, n2, q2, rfl, H.out.1, H.out.2.1⟩
  have HRP : Hid (∀ W, Calls _ _ _ W _) := fun W => read_check sP (by decide +kernel) _ ckP dP dP_is W
  have S1 : Hid (∀ W, Calls Try.prog 12 #[.int .i64 1] W fun e w' => e = .returned (.bool true) ∧ w' = W) := fun W => shared_any 1 W
  have S2 : Hid (∀ W, Calls Try.prog 12 #[.int .i64 2] W fun e w' => e = .returned (.bool true) ∧ w' = W) := fun W => shared_any 2 W
  have S3 : Hid (∀ W, Calls Try.prog 12 #[.int .i64 3] W fun e w' => e = .returned (.bool true) ∧ w' = W) := fun W => shared_any 3 W
  have S4 : Hid (∀ W, Calls Try.prog 12 #[.int .i64 4] W fun e w' => e = .returned (.bool false) ∧ w' = W) := fun W => shared_any 4 W
  have S5 : Hid (∀ W, Calls Try.prog 12 #[.int .i64 5] W fun e w' => e = .returned (.bool false) ∧ w' = W) := fun W => shared_any 5 W
  have S0 : Hid (∀ W, Calls Try.prog 12 #[.int .i64 0] W fun e w' => e = .returned (.bool false) ∧ w' = W) := fun W => shared_any 0 W
  go_enter Try.func3, Try.ntmps3
  go_wp2_with (first
    | (refine wpList_build_to (by rfl) 22 _ (by rfl) badCells (bad_built _) ?_)
    | (refine wpList_build_to (by rfl) 23 _ (by rfl) atCells (at_built _) ?_)
    | (refine wpList_store_new (by rfl) 22 _ _ (by rfl) _ badCells (by rfl) (by rfl) bad_info bad_sz bad_one ?_)
    | (refine wpList_store_new (by rfl) 23 _ _ (by rfl) _ atCells (by (show Value.pointer (some ⟨w.heap.size + 1, 0, none⟩) = Value.pointer (some ⟨(World.alloc w _).heap.size, 0, none⟩)); simp) (by rfl) at_info at_sz at_one ?_)
    | (refine wpList_load_mid (by rfl) 22 _ (by rfl) w.heap.size 0 (by rfl) badCells.toList _ (bad_range _ _) Try.underlying22 rfl bad_info ?_))
  obtain ⟨W0, hW0⟩ : ∃ W, (w.alloc (.cells badCells 22)).alloc (.cells atCells 23) = W := ⟨_, rfl⟩
  have hat : ∀ k : Nat, k < 12 → W0.cell? ⟨w.heap.size + 1, k, none⟩ = some (.int .i64 ((badAt.getD k 0 : Nat) : Int)) := by
    intro k hk
    rw [← hW0]
    have := at_cell (w.alloc (.cells badCells 22)) k hk
    simpa using this
  have KW : Kept w W0 := by rw [← hW0]; exact ((Kept.refl _).al _).al _
  have hZ : W0.heap.size = w.heap.size + 2 := by rw [← hW0]; simp
  obtain ⟨B, hB⟩ : ∃ B, w.heap.size + 1 = B := ⟨_, rfl⟩
  rw [hW0]
  rw [hB] at hat ⊢
  have hBz : B < W0.heap.size := by omega
  have HAT : Hid (∀ k : Nat, k < 12 → W0.cell? ⟨B, k, none⟩ = some (.int .i64 ((badAt.getD k 0 : Nat) : Int))) := hat
  have HKW : Hid (Kept w W0) := KW
  clear hat hZ hW0 KW hB
  go_loopw [13] (fun i wr => ∃ k : Nat, i = .int .i64 (k : Int) ∧ k ≤ 12 ∧ Hid (Kept W0 wr)) (fun i _ => 12 - (intOf i).toNat)
  case atStart => exact ⟨0, rfl, by decide, Kept.refl _⟩
  case round =>
    obtain ⟨k, rfl, hk, HB⟩ := hrel
    by_cases hlt : k < 12
    · have hki : (k : Int) < 12 := by omega
      obtain ⟨hs1, hs2⟩ := bad_size k hlt
      have RD : Hid _ := HRD.out (badB k) (by omega) _ (bad_out k hlt) wr
      have hix := fun W => bad_index k hlt W
      have HAK : Hid _ := HAT.out k hlt
      have HPL : Hid (∀ W, Calls Try.prog 9 #[.string (badB k), .int .i64 ((badAt.getD k 0 : Nat) : Int)] W fun e w' => e = .returned (.complex .f64 (lineW (badB k) (badAt.getD k 0)) (colW (badB k) (badAt.getD k 0))) ∧ w' = W) := fun W => place_in (badB k) (badAt.getD k 0) (by omega) hs2 W
      have e1 : (FloatKind.f64.format.order (lineW (badB k) (badAt.getD k 0)) (lineW (badB k) (badAt.getD k 0)) == some .eq) = true := ord_line _ _ (by omega) hs2
      have e2 : (FloatKind.f64.format.order (colW (badB k) (badAt.getD k 0)) (colW (badB k) (badAt.getD k 0)) == some .eq) = true := ord_col _ _ (by omega) hs2
      generalize lineW (badB k) (badAt.getD k 0) = X at *
      generalize colW (badB k) (badAt.getD k 0) = Y at *
      generalize badB k = S at *
      generalize badAt.getD k 0 = M at *
      go_wp2_with fail
      refine Calls.mono RD.out ?_
      rintro e w3 ⟨c1, n1, m1, c2, n2, m2, rfl, H⟩
      have K3 : Hid (Kept wr w3) := H.out.1
      have CK : Hid (∀ V, Kept w3 V → Calls Try.prog 7 #[.agg #[.slice c1 n1 m1, .slice c2 n2 m2]] V fun e w' => e = .returned (.tuple #[.complex .f64 X Y, .int .i64 3]) ∧ Kept V w') := H.out.2
      clear H
      go_wp2_with fail
      refine (CK.out _ (Kept.refl _)).mono ?_
      rintro e w4 ⟨rfl, k4⟩
      have K4 : Hid (Kept W0 w4) := HB.out.then (K3.out.then k4)
      have hak : w4.cell? ⟨B, k, none⟩ = some (.int .i64 (M : Int)) := K4.out.cellS HAK.out
      have hz4 : B < w4.heap.size := by have := K4.out.size; omega
      clear k4 HB
      go_wp2_with fail
      refine (HPL.out _).mono ?_
      rintro e w5 ⟨rfl, rfl⟩
      go_wp2_with fail
      go_roundw
      case rel => exact ⟨k + 1, by go_num, by omega, K4⟩
      case measure => simp [intOf]; omega
    · have hki : ¬ (k : Int) < 12 := by omega
      have HK5 : Hid (Kept w wr) := HKW.out.then HB.out
      clear HAT HB hBz
      go_wp2_with fail
      refine Calls.mono (HRP.out _) ?_
      rintro e w6 ⟨a1, n1, q1, a2, n2, q2, rfl, H⟩
      have K6 : Hid (Kept w w6) := HK5.out.then H.out.1
      have CK : Hid (∀ V, Kept w6 V → Calls Try.prog 7 #[.agg #[.slice a1 n1 q1, .slice a2 n2 q2]] V fun e w' => e = .returned (.tuple #[.complex .f64 0 0, .int .i64 0]) ∧ Kept V w') := H.out.2.1
      have FZ : Hid (∀ V, Kept w6 V → Calls Try.prog 11 #[.agg #[.slice a1 n1 q1, .slice a2 n2 q2], .string ⟨#[122]⟩] V fun e w' => e = .returned (.int .i64 2) ∧ Kept V w') := fun V hV => by have := H.out.2.2 V hV ⟨#[122]⟩; rwa [find_z] at this
      have FQ : Hid (∀ V, Kept w6 V → Calls Try.prog 11 #[.agg #[.slice a1 n1 q1, .slice a2 n2 q2], .string ⟨#[113]⟩] V fun e w' => e = .returned (.int .i64 (-1)) ∧ Kept V w') := fun V hV => by have := H.out.2.2 V hV ⟨#[113]⟩; rwa [find_q] at this
      have FE : Hid (∀ V, Kept w6 V → Calls Try.prog 11 #[.agg #[.slice a1 n1 q1, .slice a2 n2 q2], .string ⟨#[]⟩] V fun e w' => e = .returned (.int .i64 (-1)) ∧ Kept V w') := fun V hV => by have := H.out.2.2 V hV ⟨#[]⟩; rwa [find_e] at this
      clear H
      go_wp2_with fail
      refine (CK.out _ ((Kept.refl _).al _)).mono ?_
      rintro e w7 ⟨rfl, k7⟩
      obtain ⟨P, hP⟩ : ∃ P, w6.heap.size = P := ⟨_, rfl⟩
      have K7 : Hid (Kept w6 w7) := ((Kept.refl w6).al _).then k7
      have p0 : w7.cell? ⟨w6.heap.size, 0, none⟩ = some (.slice a1 n1 q1) := k7.cellS (by simp)
      have p1 : w7.cell? ⟨w6.heap.size, 1, none⟩ = some (.slice a2 n2 q2) := k7.cellS (by simp)
      rw [hP] at p0 p1 ⊢
      have HP0 : Hid (w7.cell? ⟨P, 0, none⟩ = some (.slice a1 n1 q1) ∧ w7.cell? ⟨P, 1, none⟩ = some (.slice a2 n2 q2)) := ⟨p0, p1⟩
      clear k7 p0 p1 hP
      go_wp2_with fail
      refine (HKN.out _).mono ?_
      rintro e w8 ⟨rfl, k8⟩
      have K8 : Hid (Kept w7 w8) := k8
      have p0 := k8.cellS HP0.out.1
      have p1 := k8.cellS HP0.out.2
      have pl := block_lt_of_cell p0
      clear k8
      go_wp2_with fail
      refine (FZ.out _ (K7.out.then K8.out)).mono ?_
      rintro e w9 ⟨rfl, k9⟩
      have K9 : Hid (Kept w7 w9) := K8.out.then k9
      clear p0 p1 pl k9
      have p0 := K9.out.cellS HP0.out.1
      have p1 := K9.out.cellS HP0.out.2
      have pl := block_lt_of_cell p0
      go_wp2_with fail
      refine (FQ.out _ (K7.out.then K9.out)).mono ?_
      rintro e w10 ⟨rfl, k10⟩
      have K10 : Hid (Kept w7 w10) := K9.out.then k10
      clear p0 p1 pl k10
      have p0 := K10.out.cellS HP0.out.1
      have p1 := K10.out.cellS HP0.out.2
      have pl := block_lt_of_cell p0
      go_wp2_with fail
      refine (FE.out _ (K7.out.then K10.out)).mono ?_
      rintro e w11 ⟨rfl, k11⟩
      have K11 : Hid (Kept w7 w11) := K10.out.then k11
      clear p0 p1 pl k11
      go_wp2_with fail
      refine (S1.out _).mono ?_
      rintro e w20 ⟨rfl, rfl⟩
      go_wp2_with fail
      refine (S2.out _).mono ?_
      rintro e w21 ⟨rfl, rfl⟩
      go_wp2_with fail
      refine (S3.out _).mono ?_
      rintro e w22 ⟨rfl, rfl⟩
      go_wp2_with fail
      refine (S4.out _).mono ?_
      rintro e w23 ⟨rfl, rfl⟩
      go_wp2_with fail
      refine (S5.out _).mono ?_
      rintro e w24 ⟨rfl, rfl⟩
      go_wp2_with fail
      refine (S0.out _).mono ?_
      rintro e w25 ⟨rfl, rfl⟩
      go_wp2_with fail
      go_ret
      exact ⟨rfl, (K6.out.then K7.out).then K11.out⟩
end Go.Proofs.Ytdodpeneehbbkab
