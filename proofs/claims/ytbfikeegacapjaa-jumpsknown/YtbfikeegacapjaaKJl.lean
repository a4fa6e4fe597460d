/- Jl -/
import Derived.Test.YtbfikeegacapjaaKJk

namespace Go.Proofs.Ytbfikeegacapjaa
open Go.RowKit Jf
attribute [local go_sem] run_store_complex
def goodS : List (List UInt8) := [[103, 111, 123, 105, 102, 32, 49, 123, 103, 111, 116, 111, 32, 97, 125, 32, 108, 97, 98, 101, 108, 32, 97, 125], [103, 111, 123, 114, 101, 112, 101, 97, 116, 32, 50, 123, 105, 102, 32, 49, 123, 103, 111, 116, 111, 32, 97, 125, 32, 108, 97, 98, 101, 108, 32, 97, 125, 125], [103, 111, 123, 105, 102, 32, 49, 123, 103, 111, 116, 111, 32, 97, 125, 101, 108, 115, 101, 123, 112, 114, 105, 110, 116, 32, 49, 125, 32, 108, 97, 98, 101, 108, 32, 97, 125], [103, 111, 123, 103, 111, 116, 111, 32, 97, 32, 108, 97, 98, 101, 108, 32, 97, 125, 103, 111, 123, 103, 111, 116, 111, 32, 97, 32, 108, 97, 98, 101, 108, 32, 97, 125], [103, 111, 123, 114, 101, 112, 101, 97, 116, 32, 51, 123, 105, 102, 32, 49, 123, 105, 102, 32, 50, 123, 103, 111, 116, 111, 32, 98, 125, 125, 125, 32, 112, 114, 105, 110, 116, 32, 49, 32, 108, 97, 98, 101, 108, 32, 98, 125]]
def goodB (k : Nat) : ByteArray := ⟨(goodS.getD k []).toArray⟩
def badS : List (List UInt8) := [[103, 111, 123, 103, 111, 116, 111, 32, 97, 125], [103, 111, 123, 103, 111, 116, 111, 32, 97, 32, 105, 102, 32, 49, 123, 108, 97, 98, 101, 108, 32, 97, 125, 125], [103, 111, 123, 105, 102, 32, 49, 123, 103, 111, 116, 111, 32, 97, 125, 101, 108, 115, 101, 123, 108, 97, 98, 101, 108, 32, 97, 125, 125], [103, 111, 123, 103, 111, 116, 111, 32, 97, 125, 103, 111, 123, 108, 97, 98, 101, 108, 32, 97, 125], [103, 111, 123, 108, 97, 98, 101, 108, 32, 97, 32, 108, 97, 98, 101, 108, 32, 97, 125], [103, 111, 123, 114, 101, 112, 101, 97, 116, 32, 49, 123, 103, 111, 116, 111, 32, 97, 125, 32, 114, 101, 112, 101, 97, 116, 32, 49, 123, 108, 97, 98, 101, 108, 32, 97, 125, 125], [103, 111, 123, 108, 97, 98, 101, 108, 32, 97, 32, 105, 102, 32, 49, 123, 108, 97, 98, 101, 108, 32, 97, 125, 32, 103, 111, 116, 111, 32, 98, 125]]
def badAt : List Nat := [3, 3, 8, 3, 11, 12, 16]
def badB (k : Nat) : ByteArray := ⟨(badS.getD k []).toArray⟩
def sP : ByteArray := ⟨#[103, 111, 123, 103, 111, 116, 111, 32, 97, 32, 105, 102, 32, 49, 123, 108, 97, 98, 101, 108, 32, 97, 125, 32, 103, 111, 116, 111, 32, 98, 32, 108, 97, 98, 101, 108, 32, 98, 32, 108, 97, 98, 101, 108, 32, 97, 125]⟩
theorem go0 : (ckJ (goodB 0)).map (·.1) = some none := by kernel_rfl
theorem go1 : (ckJ (goodB 1)).map (·.1) = some none := by kernel_rfl
theorem go2 : (ckJ (goodB 2)).map (·.1) = some none := by kernel_rfl
theorem go3 : (ckJ (goodB 3)).map (·.1) = some none := by kernel_rfl
theorem go4 : (ckJ (goodB 4)).map (·.1) = some none := by kernel_rfl
theorem bo0 : (ckJ (badB 0)).map (·.1) = some (some (lineW (badB 0) (badAt.getD 0 0), colW (badB 0) (badAt.getD 0 0))) := by kernel_rfl
theorem bo1 : (ckJ (badB 1)).map (·.1) = some (some (lineW (badB 1) (badAt.getD 1 0), colW (badB 1) (badAt.getD 1 0))) := by kernel_rfl
theorem bo2 : (ckJ (badB 2)).map (·.1) = some (some (lineW (badB 2) (badAt.getD 2 0), colW (badB 2) (badAt.getD 2 0))) := by kernel_rfl
theorem bo3 : (ckJ (badB 3)).map (·.1) = some (some (lineW (badB 3) (badAt.getD 3 0), colW (badB 3) (badAt.getD 3 0))) := by kernel_rfl
theorem bo4 : (ckJ (badB 4)).map (·.1) = some (some (lineW (badB 4) (badAt.getD 4 0), colW (badB 4) (badAt.getD 4 0))) := by kernel_rfl
theorem bo5 : (ckJ (badB 5)).map (·.1) = some (some (lineW (badB 5) (badAt.getD 5 0), colW (badB 5) (badAt.getD 5 0))) := by kernel_rfl
theorem bo6 : (ckJ (badB 6)).map (·.1) = some (some (lineW (badB 6) (badAt.getD 6 0), colW (badB 6) (badAt.getD 6 0))) := by kernel_rfl
theorem good_out (k : Nat) (hk : k < 5) : (ckJ (goodB k)).map (·.1) = some none := by
  match k, hk with
  | 0, _ => exact go0
  | 1, _ => exact go1
  | 2, _ => exact go2
  | 3, _ => exact go3
  | 4, _ => exact go4
  | j + 5, h => exact absurd h (by omega)
theorem bad_out (k : Nat) (hk : k < 7) : (ckJ (badB k)).map (·.1) = some (some (lineW (badB k) (badAt.getD k 0), colW (badB k) (badAt.getD k 0))) := by
  match k, hk with
  | 0, _ => exact bo0
  | 1, _ => exact bo1
  | 2, _ => exact bo2
  | 3, _ => exact bo3
  | 4, _ => exact bo4
  | 5, _ => exact bo5
  | 6, _ => exact bo6
  | j + 7, h => exact absurd h (by omega)
theorem good_size (k : Nat) (hk : k < 5) : (goodB k).size ≤ 100 := by
  have h : ∀ k : Nat, k < 5 → (goodB k).size ≤ 100 := by decide +kernel
  exact h k hk
theorem bad_size (k : Nat) (hk : k < 7) : (badB k).size ≤ 100 ∧ badAt.getD k 0 ≤ (badB k).size := by
  have h : ∀ k : Nat, k < 7 → (badB k).size ≤ 100 ∧ badAt.getD k 0 ≤ (badB k).size := by decide +kernel
  exact h k hk
theorem good_index (k : Nat) (hk : k < 5) (w : World) : (Instr.index 41 (.agg #[.string ⟨#[103, 111, 123, 105, 102, 32, 49, 123, 103, 111, 116, 111, 32, 97, 125, 32, 108, 97, 98, 101, 108, 32, 97, 125]⟩, .string ⟨#[103, 111, 123, 114, 101, 112, 101, 97, 116, 32, 50, 123, 105, 102, 32, 49, 123, 103, 111, 116, 111, 32, 97, 125, 32, 108, 97, 98, 101, 108, 32, 97, 125, 125]⟩, .string ⟨#[103, 111, 123, 105, 102, 32, 49, 123, 103, 111, 116, 111, 32, 97, 125, 101, 108, 115, 101, 123, 112, 114, 105, 110, 116, 32, 49, 125, 32, 108, 97, 98, 101, 108, 32, 97, 125]⟩, .string ⟨#[103, 111, 123, 103, 111, 116, 111, 32, 97, 32, 108, 97, 98, 101, 108, 32, 97, 125, 103, 111, 123, 103, 111, 116, 111, 32, 97, 32, 108, 97, 98, 101, 108, 32, 97, 125]⟩, .string ⟨#[103, 111, 123, 114, 101, 112, 101, 97, 116, 32, 51, 123, 105, 102, 32, 49, 123, 105, 102, 32, 50, 123, 103, 111, 116, 111, 32, 98, 125, 125, 125, 32, 112, 114, 105, 110, 116, 32, 49, 32, 108, 97, 98, 101, 108, 32, 98, 125]⟩]) (.int .i64 (k : Int))).run Try.prog w = .ok (.string (goodB k)) w := by
  have h9 := Try.sizeOf9
  have ha := Try.isAgg9
  match k, hk with
  | 0, _ => simp [Instr.index, go_sem, h9, ha, goodS, goodB]
  | 1, _ => simp [Instr.index, go_sem, h9, ha, goodS, goodB]
  | 2, _ => simp [Instr.index, go_sem, h9, ha, goodS, goodB]
  | 3, _ => simp [Instr.index, go_sem, h9, ha, goodS, goodB]
  | 4, _ => simp [Instr.index, go_sem, h9, ha, goodS, goodB]
  | j + 5, h => exact absurd h (by omega)
theorem bad_index2 (k : Nat) (hk : k < 7) (w : World) : (Instr.index 42 (.agg #[.string (badB 0), .string (badB 1), .string (badB 2), .string (badB 3), .string (badB 4), .string (badB 5), .string (badB 6)]) (.int .i64 (k : Int))).run Try.prog w = .ok (.string (badB k)) w := by
  have h9 := Try.sizeOf9
  have ha := Try.isAgg9
  match k, hk with
  | 0, _ => simp [Instr.index, go_sem, h9, ha]
  | 1, _ => simp [Instr.index, go_sem, h9, ha]
  | 2, _ => simp [Instr.index, go_sem, h9, ha]
  | 3, _ => simp [Instr.index, go_sem, h9, ha]
  | 4, _ => simp [Instr.index, go_sem, h9, ha]
  | 5, _ => simp [Instr.index, go_sem, h9, ha]
  | 6, _ => simp [Instr.index, go_sem, h9, ha]
  | j + 7, h => exact absurd h (by omega)
theorem jkP : (ckJ sP).isSome = true := by kernel_rfl
def lP : List Sp := ((ckJ sP).map (·.2)).getD []
def rP : Option (Nat × Nat) := ((ckJ sP).map (·.1)).getD none
theorem jkP2 : ckJ sP = some (rP, lP) := by
  unfold rP lP
  cases h : ckJ sP with
  | none => have := jkP; rw [h] at this; cases this
  | some p => rfl
theorem tP0 : starg lP 0 = 5 := by kernel_rfl
theorem tP3 : starg lP 3 = 4 := by kernel_rfl
theorem tP1 : starg lP 1 = -1 := by kernel_rfl
theorem tP9 : starg lP 9 = -1 := by kernel_rfl
theorem tPn : starg lP (-1) = -1 := by kernel_rfl
set_option maxRecDepth 100000 in
set_option maxHeartbeats 2000000 in
theorem jumpsKnown_row (w : World) : Calls Try.prog 4 #[] w fun e w' => e = .returned (.bool true) ∧ Kept w w' := by
  have HKN : Hid (∀ W, Calls Try.prog 18 #[] W fun e w' => e = .returned (.bool true) ∧ Kept W w') := fun W => known9_any W
  have HRD : Hid (∀ (s : ByteArray) (_ : s.size ≤ 1125899906842624) (r : Option (Nat × Nat)) (_ : (ckJ s).map (·.1) = some r) (W : World), Calls Try.prog 16 #[.string s] W fun e w1 => ∃ (a1 : Option Addr) (n1 q1 : Nat) (a2 : Option Addr) (n2 q2 : Nat), e = .returned (.agg #[.slice a1 n1 q1, .slice a2 n2 q2]) ∧ Hid (Kept W w1 ∧ (∀ X, Kept w1 X → Calls Try.prog 15 #[.agg #[.slice a1 n1 q1, .slice a2 n2 q2]] X fun e w' => e = .returned (Jf.told r) ∧ Kept X w'))) := by
    intro s hs r hr W
    obtain ⟨l, hl⟩ := ckJ_l hr
    refine (read9_check s hs r l hl W).mono ?_
    rintro e w1 ⟨a1, n1, q1, a2, n2, q2, rfl, H⟩
    exact ⟨a1, n1, q1, a2, n2, q2, rfl, H.out.1, H.out.2.1⟩
  have HRP : Hid (∀ W, Calls _ _ _ W _) := fun W => read9_check sP (by decide +kernel) _ lP jkP2 W
  go_enter Try.func4, Try.ntmps4
  go_wp2_with fail
  obtain ⟨W0, hW0⟩ : ∃ W, w.alloc (.cells #[.string ⟨#[103, 111, 123, 105, 102, 32, 49, 123, 103, 111, 116, 111, 32, 97, 125, 32, 108, 97, 98, 101, 108, 32, 97, 125]⟩, .string ⟨#[103, 111, 123, 114, 101, 112, 101, 97, 116, 32, 50, 123, 105, 102, 32, 49, 123, 103, 111, 116, 111, 32, 97, 125, 32, 108, 97, 98, 101, 108, 32, 97, 125, 125]⟩, .string ⟨#[103, 111, 123, 105, 102, 32, 49, 123, 103, 111, 116, 111, 32, 97, 125, 101, 108, 115, 101, 123, 112, 114, 105, 110, 116, 32, 49, 125, 32, 108, 97, 98, 101, 108, 32, 97, 125]⟩, .string ⟨#[103, 111, 123, 103, 111, 116, 111, 32, 97, 32, 108, 97, 98, 101, 108, 32, 97, 125, 103, 111, 123, 103, 111, 116, 111, 32, 97, 32, 108, 97, 98, 101, 108, 32, 97, 125]⟩, .string ⟨#[103, 111, 123, 114, 101, 112, 101, 97, 116, 32, 51, 123, 105, 102, 32, 49, 123, 105, 102, 32, 50, 123, 103, 111, 116, 111, 32, 98, 125, 125, 125, 32, 112, 114, 105, 110, 116, 32, 49, 32, 108, 97, 98, 101, 108, 32, 98, 125]⟩] 41) = W := ⟨_, rfl⟩
  have K0 : Hid (Kept w W0) := by rw [← hW0]; exact (Kept.refl _).al _
  rw [hW0]
  clear hW0
  go_loopw [15] (fun i wr => ∃ k : Nat, i = .int .i64 (k : Int) ∧ k ≤ 5 ∧ Hid (Kept W0 wr)) (fun i _ => 5 - (intOf i).toNat)
  case atStart => exact ⟨0, rfl, by decide, Kept.refl _⟩
  case round =>
    obtain ⟨k, rfl, hk, HB⟩ := hrel
    by_cases hlt : k < 5
    · have hki : (k : Int) < 5 := by omega
      have hix := fun W => good_index k hlt W
      have RD : Hid _ := HRD.out (goodB k) (by have := good_size k hlt; omega) _ (good_out k hlt) wr
      generalize goodB k = S at *
      go_wp2_with fail
      refine Calls.mono RD.out ?_
      rintro e w3 ⟨c1, n1, m1, c2, n2, m2, rfl, H⟩
      have K3 : Hid (Kept wr w3) := H.out.1
      have CK : Hid (∀ V, Kept w3 V → Calls Try.prog 15 #[.agg #[.slice c1 n1 m1, .slice c2 n2 m2]] V fun e w' => e = .returned (.tuple #[.complex .f64 0 0, .int .i64 0]) ∧ Kept V w') := H.out.2
      clear H hix
      go_wp2_with fail
      refine (CK.out _ (Kept.refl _)).mono ?_
      rintro e w4 ⟨rfl, k4⟩
      have K4 : Hid (Kept W0 w4) := HB.out.then (K3.out.then k4)
      clear k4 HB
      go_wp2_with fail
      go_roundw
      case rel => exact ⟨k + 1, by go_num, by omega, K4⟩
      case measure => simp [intOf]; omega
    · have hki : ¬ (k : Int) < 5 := by omega
      have HK5 : Hid (Kept w wr) := K0.out.then HB.out
      go_upto_region 11 with fail
      obtain ⟨W2, hW2⟩ : ∃ W, (wr.alloc (.cells #[.string ⟨#[103, 111, 123, 103, 111, 116, 111, 32, 97, 125]⟩, .string ⟨#[103, 111, 123, 103, 111, 116, 111, 32, 97, 32, 105, 102, 32, 49, 123, 108, 97, 98, 101, 108, 32, 97, 125, 125]⟩, .string ⟨#[103, 111, 123, 105, 102, 32, 49, 123, 103, 111, 116, 111, 32, 97, 125, 101, 108, 115, 101, 123, 108, 97, 98, 101, 108, 32, 97, 125, 125]⟩, .string ⟨#[103, 111, 123, 103, 111, 116, 111, 32, 97, 125, 103, 111, 123, 108, 97, 98, 101, 108, 32, 97, 125]⟩, .string ⟨#[103, 111, 123, 108, 97, 98, 101, 108, 32, 97, 32, 108, 97, 98, 101, 108, 32, 97, 125]⟩, .string ⟨#[103, 111, 123, 114, 101, 112, 101, 97, 116, 32, 49, 123, 103, 111, 116, 111, 32, 97, 125, 32, 114, 101, 112, 101, 97, 116, 32, 49, 123, 108, 97, 98, 101, 108, 32, 97, 125, 125]⟩, .string ⟨#[103, 111, 123, 108, 97, 98, 101, 108, 32, 97, 32, 105, 102, 32, 49, 123, 108, 97, 98, 101, 108, 32, 97, 125, 32, 103, 111, 116, 111, 32, 98, 125]⟩] 42)).alloc (.cells #[.int .i64 3, .int .i64 3, .int .i64 8, .int .i64 3, .int .i64 11, .int .i64 12, .int .i64 16] 43) = W := ⟨_, rfl⟩
      obtain ⟨B, hB⟩ : ∃ B, wr.heap.size + 1 = B := ⟨_, rfl⟩
      have K2 : Hid (Kept w W2) := by rw [← hW2]; exact (HK5.out.al _).al _
      have HAT : Hid (∀ k : Nat, k < 7 → W2.cell? ⟨B, k, none⟩ = some (.int .i64 ((badAt.getD k 0 : Nat) : Int))) := by
        intro k hk
        rw [← hW2, ← hB]
        match k, hk with
        | 0, _ => simp [badAt]
        | 1, _ => simp [badAt]
        | 2, _ => simp [badAt]
        | 3, _ => simp [badAt]
        | 4, _ => simp [badAt]
        | 5, _ => simp [badAt]
        | 6, _ => simp [badAt]
        | j + 7, h => exact absurd h (by omega)
      have HBS : Hid (∀ k : Nat, k < 7 → (W2.cell? ⟨wr.heap.size, k, none⟩ = some (.string (badB k)))) := by
        intro k hk
        rw [← hW2]
        match k, hk with
        | 0, _ => simp [badB, badS]
        | 1, _ => simp [badB, badS]
        | 2, _ => simp [badB, badS]
        | 3, _ => simp [badB, badS]
        | 4, _ => simp [badB, badS]
        | 5, _ => simp [badB, badS]
        | 6, _ => simp [badB, badS]
        | j + 7, h => exact absurd h (by omega)
      rw [hW2]
      have hZ : W2.heap.size = wr.heap.size + 2 := by rw [← hW2]; simp
      have b0 := HBS.out 0 (by decide)
      have b1 := HBS.out 1 (by decide)
      have b2 := HBS.out 2 (by decide)
      have b3 := HBS.out 3 (by decide)
      have b4 := HBS.out 4 (by decide)
      have b5 := HBS.out 5 (by decide)
      have b6 := HBS.out 6 (by decide)
      have bz : wr.heap.size < W2.heap.size := by omega
      have HBZ : Hid (B < W2.heap.size) := by show B < W2.heap.size; omega
      rw [show wr.heap.size + 1 = B from hB]
      clear hW2 hB hZ HB HK5 hki hlt hk HBS
      go_wp2_with fail
      clear b0 b1 b2 b3 b4 b5 b6 bz
      go_loopw [30] (fun i wr => ∃ k : Nat, i = .int .i64 (k : Int) ∧ k ≤ 7 ∧ Hid (Kept W2 wr)) (fun i _ => 7 - (intOf i).toNat)
      case atStart => exact ⟨0, rfl, by decide, Kept.refl _⟩
      case round =>
        obtain ⟨k, rfl, hk, HB⟩ := hrel
        by_cases hlt : k < 7
        · have hki : (k : Int) < 7 := by omega
          obtain ⟨hs1, hs2⟩ := bad_size k hlt
          have RD : Hid _ := HRD.out (badB k) (by omega) _ (bad_out k hlt) wr
          have hix := fun W => bad_index2 k hlt W
          have HAK : Hid _ := HAT.out k hlt
          have HPL : Hid (∀ W, Calls Try.prog 17 #[.string (badB k), .int .i64 ((badAt.getD k 0 : Nat) : Int)] W fun e w' => e = .returned (.complex .f64 (lineW (badB k) (badAt.getD k 0)) (colW (badB k) (badAt.getD k 0))) ∧ w' = W) := fun W => place_in (badB k) (badAt.getD k 0) (by omega) hs2 W
          have e1 : (FloatKind.f64.format.order (lineW (badB k) (badAt.getD k 0)) (lineW (badB k) (badAt.getD k 0)) == some .eq) = true := ord_line _ _ (by omega) hs2
          have e2 : (FloatKind.f64.format.order (colW (badB k) (badAt.getD k 0)) (colW (badB k) (badAt.getD k 0)) == some .eq) = true := ord_col _ _ (by omega) hs2
          generalize badB 0 = Z0 at *
          generalize badB 1 = Z1 at *
          generalize badB 2 = Z2 at *
          generalize badB 3 = Z3 at *
          generalize badB 4 = Z4 at *
          generalize badB 5 = Z5 at *
          generalize badB 6 = Z6 at *
          generalize lineW (badB k) (badAt.getD k 0) = X at *
          generalize colW (badB k) (badAt.getD k 0) = Y at *
          generalize badB k = S at *
          generalize badAt.getD k 0 = M at *
          go_wp2_with fail
          refine Calls.mono RD.out ?_
          rintro e w3 ⟨c1, n1, m1, c2, n2, m2, rfl, H⟩
          have K3 : Hid (Kept wr w3) := H.out.1
          have CK : Hid (∀ V, Kept w3 V → Calls Try.prog 15 #[.agg #[.slice c1 n1 m1, .slice c2 n2 m2]] V fun e w' => e = .returned (.tuple #[.complex .f64 X Y, .int .i64 4]) ∧ Kept V w') := H.out.2
          clear H
          go_wp2_with fail
          refine (CK.out _ (Kept.refl _)).mono ?_
          rintro e w4 ⟨rfl, k4⟩
          have K4 : Hid (Kept W2 w4) := HB.out.then (K3.out.then k4)
          have hak : w4.cell? ⟨B, k, none⟩ = some (.int .i64 (M : Int)) := K4.out.cellS HAK.out
          have hz4 : B < w4.heap.size := by have := K4.out.size; have := HBZ.out; omega
          clear k4 HB hix
          go_wp2_with fail
          refine (HPL.out _).mono ?_
          rintro e w5 ⟨rfl, rfl⟩
          go_wp2_with fail
          go_roundw
          case rel => exact ⟨k + 1, by go_num, by omega, K4⟩
          case measure => simp [intOf]; omega
        · have hki : ¬ (k : Int) < 7 := by omega
          have HK5 : Hid (Kept w wr) := K2.out.then HB.out
          clear HAT HB
          go_wp2_with fail
          refine Calls.mono (HRP.out _) ?_
          rintro e w6 ⟨a1, n1, q1, a2, n2, q2, rfl, H⟩
          have K6 : Hid (Kept w w6) := HK5.out.then H.out.1
          have TG : Hid (∀ W, Kept w6 W → ∀ i : Int, Calls Try.prog 19 #[.agg #[.slice a1 n1 q1, .slice a2 n2 q2], .int .i64 i] W fun e w' => e = .returned (.int .i64 (starg lP i)) ∧ Kept W w') := H.out.2.2
          have T0 : Hid (∀ W, Kept w6 W → Calls Try.prog 19 #[.agg #[.slice a1 n1 q1, .slice a2 n2 q2], .int .i64 0] W fun e w' => e = .returned (.int .i64 5) ∧ Kept W w') := fun W hW => by have := TG.out W hW 0; rwa [tP0] at this
          have T3 : Hid (∀ W, Kept w6 W → Calls Try.prog 19 #[.agg #[.slice a1 n1 q1, .slice a2 n2 q2], .int .i64 3] W fun e w' => e = .returned (.int .i64 4) ∧ Kept W w') := fun W hW => by have := TG.out W hW 3; rwa [tP3] at this
          have T1 : Hid (∀ W, Kept w6 W → Calls Try.prog 19 #[.agg #[.slice a1 n1 q1, .slice a2 n2 q2], .int .i64 1] W fun e w' => e = .returned (.int .i64 (-1)) ∧ Kept W w') := fun W hW => by have := TG.out W hW 1; rwa [tP1] at this
          have T9 : Hid (∀ W, Kept w6 W → Calls Try.prog 19 #[.agg #[.slice a1 n1 q1, .slice a2 n2 q2], .int .i64 9] W fun e w' => e = .returned (.int .i64 (-1)) ∧ Kept W w') := fun W hW => by have := TG.out W hW 9; rwa [tP9] at this
          have TN : Hid (∀ W, Kept w6 W → Calls Try.prog 19 #[.agg #[.slice a1 n1 q1, .slice a2 n2 q2], .int .i64 (-1)] W fun e w' => e = .returned (.int .i64 (-1)) ∧ Kept W w') := fun W hW => by have := TG.out W hW (-1); rwa [tPn] at this
          clear H TG
          go_wp2_with fail
          obtain ⟨W7, hW7⟩ : ∃ W, w6.alloc (.cells #[.slice a1 n1 q1, .slice a2 n2 q2] 27) = W := ⟨_, rfl⟩
          obtain ⟨P, hP⟩ : ∃ P, w6.heap.size = P := ⟨_, rfl⟩
          have K7 : Hid (Kept w6 W7) := by rw [← hW7]; exact (Kept.refl _).al _
          have BP : Hid (BoxS W7 P [.slice a1 n1 q1, .slice a2 n2 q2]) := by rw [← hW7, ← hP]; exact box_newQ _ _ _
          rw [hW7, hP]
          clear hW7 hP
          refine (HKN.out _).mono ?_
          rintro e w8 ⟨rfl, k8⟩
          have K8 : Hid (Kept W7 w8) := k8
          clear k8
          have p0 := (BP.out.kept K8.out).cell 0 rfl
          have p1 := (BP.out.kept K8.out).cell 1 rfl
          have pl := block_lt_of_cell p0
          go_wp2_with fail
          refine (T0.out _ (K7.out.then K8.out)).mono ?_
          rintro e w9 ⟨rfl, k9⟩
          have K9 : Hid (Kept W7 w9) := K8.out.then k9
          clear p0 p1 pl k9
          have p0 := (BP.out.kept K9.out).cell 0 rfl
          have p1 := (BP.out.kept K9.out).cell 1 rfl
          have pl := block_lt_of_cell p0
          go_wp2_with fail
          refine (T3.out _ (K7.out.then K9.out)).mono ?_
          rintro e w10 ⟨rfl, k10⟩
          have K10 : Hid (Kept W7 w10) := K9.out.then k10
          clear p0 p1 pl k10
          have p0 := (BP.out.kept K10.out).cell 0 rfl
          have p1 := (BP.out.kept K10.out).cell 1 rfl
          have pl := block_lt_of_cell p0
          go_wp2_with fail
          refine (T1.out _ (K7.out.then K10.out)).mono ?_
          rintro e w11 ⟨rfl, k11⟩
          have K11 : Hid (Kept W7 w11) := K10.out.then k11
          clear p0 p1 pl k11
          have p0 := (BP.out.kept K11.out).cell 0 rfl
          have p1 := (BP.out.kept K11.out).cell 1 rfl
          have pl := block_lt_of_cell p0
          go_wp2_with fail
          refine (T9.out _ (K7.out.then K11.out)).mono ?_
          rintro e w12 ⟨rfl, k12⟩
          have K12 : Hid (Kept W7 w12) := K11.out.then k12
          clear p0 p1 pl k12
          have p0 := (BP.out.kept K12.out).cell 0 rfl
          have p1 := (BP.out.kept K12.out).cell 1 rfl
          have pl := block_lt_of_cell p0
          go_wp2_with fail
          refine (TN.out _ (K7.out.then K12.out)).mono ?_
          rintro e w13 ⟨rfl, k13⟩
          have K13 : Hid (Kept W7 w13) := K12.out.then k13
          clear p0 p1 pl k13
          go_wp2_with fail
          go_ret
          exact ⟨rfl, (K6.out.then K7.out).then K13.out⟩
end Go.Proofs.Ytbfikeegacapjaa
