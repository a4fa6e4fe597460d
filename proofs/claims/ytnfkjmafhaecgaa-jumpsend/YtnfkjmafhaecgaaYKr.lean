/- Kr -/
import Derived.Test.YtnfkjmafhaecgaaYTk3

namespace Go.Proofs.Ytnfkjmafhaecgaa
open Go.RowKit
def kwArr : Array ByteArray := #[⟨#[118, 97, 114]⟩, ⟨#[119, 105, 100, 101]⟩, ⟨#[97, 116, 111, 109, 105, 99]⟩, ⟨#[108, 111, 99, 97, 108]⟩, ⟨#[109, 117, 116, 101, 120]⟩, ⟨#[99, 104, 97, 110]⟩, ⟨#[103, 111]⟩, ⟨#[108, 111, 99, 107]⟩, ⟨#[117, 110, 108, 111, 99, 107]⟩, ⟨#[115, 101, 110, 100]⟩, ⟨#[114, 101, 99, 118]⟩, ⟨#[112, 114, 105, 110, 116]⟩, ⟨#[105, 102]⟩, ⟨#[101, 108, 115, 101]⟩, ⟨#[114, 101, 112, 101, 97, 116]⟩, ⟨#[103, 111, 116, 111]⟩, ⟨#[108, 97, 98, 101, 108]⟩]
def kwCells : Array Value := #[.string ⟨#[118, 97, 114]⟩, .string ⟨#[119, 105, 100, 101]⟩, .string ⟨#[97, 116, 111, 109, 105, 99]⟩, .string ⟨#[108, 111, 99, 97, 108]⟩, .string ⟨#[109, 117, 116, 101, 120]⟩, .string ⟨#[99, 104, 97, 110]⟩, .string ⟨#[103, 111]⟩, .string ⟨#[108, 111, 99, 107]⟩, .string ⟨#[117, 110, 108, 111, 99, 107]⟩, .string ⟨#[115, 101, 110, 100]⟩, .string ⟨#[114, 101, 99, 118]⟩, .string ⟨#[112, 114, 105, 110, 116]⟩, .string ⟨#[105, 102]⟩, .string ⟨#[101, 108, 115, 101]⟩, .string ⟨#[114, 101, 112, 101, 97, 116]⟩, .string ⟨#[103, 111, 116, 111]⟩, .string ⟨#[108, 97, 98, 101, 108]⟩]
theorem kwCells_eq : kwCells = kwArr.map Value.string := by kernel_rfl
theorem kw_built (a : Act) : Try.prog.built 120 ((#[(0, Operand.const (.string ⟨#[118, 97, 114]⟩)), (1, Operand.const (.string ⟨#[119, 105, 100, 101]⟩)), (2, Operand.const (.string ⟨#[97, 116, 111, 109, 105, 99]⟩)), (3, Operand.const (.string ⟨#[108, 111, 99, 97, 108]⟩)), (4, Operand.const (.string ⟨#[109, 117, 116, 101, 120]⟩)), (5, Operand.const (.string ⟨#[99, 104, 97, 110]⟩)), (6, Operand.const (.string ⟨#[103, 111]⟩)), (7, Operand.const (.string ⟨#[108, 111, 99, 107]⟩)), (8, Operand.const (.string ⟨#[117, 110, 108, 111, 99, 107]⟩)), (9, Operand.const (.string ⟨#[115, 101, 110, 100]⟩)), (10, Operand.const (.string ⟨#[114, 101, 99, 118]⟩)), (11, Operand.const (.string ⟨#[112, 114, 105, 110, 116]⟩)), (12, Operand.const (.string ⟨#[105, 102]⟩)), (13, Operand.const (.string ⟨#[101, 108, 115, 101]⟩)), (14, Operand.const (.string ⟨#[114, 101, 112, 101, 97, 116]⟩)), (15, Operand.const (.string ⟨#[103, 111, 116, 111]⟩)), (16, Operand.const (.string ⟨#[108, 97, 98, 101, 108]⟩))] : Array (Nat × Operand)).map fun (i, x) => (i, a.eval x)).toList = some kwCells := by kernel_rfl
theorem kw_index (k : Nat) (hk : k < 17) (w : World) : (Instr.index 120 (.agg kwCells) (.int .i64 (k : Int))).run Try.prog w = .ok (.string (kwArr.getD k ⟨#[]⟩)) w := by
  have h9 := Try.sizeOf9
  have ha := Try.isAgg9
  have h : kwCells[k]? = some (.string (kwArr.getD k ⟨#[]⟩)) := by
    have hs : k < kwArr.size := by rw [show kwArr.size = 17 by rfl]; exact hk
    rw [kwCells_eq]; simp [hs, Array.getD]
  simp [Instr.index, go_sem, h9, ha, h]
  intro hge
  omega
theorem kw_hit (s : ByteArray) : kw s = true ↔ ∃ k, k < 17 ∧ (s.toList == (kwArr.getD k ⟨#[]⟩).toList) = true := by
  have e : kws = (List.range 17).map fun k => (kwArr.getD k ⟨#[]⟩).toList := by decide +kernel
  unfold kw
  rw [List.any_eq_true, e]
  constructor
  · rintro ⟨x, hx, h⟩
    obtain ⟨k, hk, rfl⟩ := List.mem_map.1 hx
    exact ⟨k, List.mem_range.1 hk, h⟩
  · rintro ⟨k, hk, h⟩
    exact ⟨_, List.mem_map.2 ⟨k, List.mem_range.2 hk, rfl⟩, h⟩
set_option maxRecDepth 100000 in
set_option maxHeartbeats 1000000 in
theorem refKeyword_no (s : ByteArray) (w : World) (h : ∀ k, k < 17 → (s.toList == (kwArr.getD k ⟨#[]⟩).toList) = false) : Calls Try.prog 59 #[.string s] w fun e w' => e = .returned (.bool false) ∧ w' = w := by
  have H : Hid (∀ k, k < 17 → (s.toList == (kwArr.getD k ⟨#[]⟩).toList) = false) := h
  clear h
  go_enter Try.func59, Try.ntmps59
  go_wp2_with (refine wpList_build_to (by rfl) _ _ (by rfl) kwCells (kw_built _) ?_)
  go_loop [6] (fun i => ∃ k : Nat, k ≤ 17 ∧ i = .int .i64 (k : Int)) (fun i => 17 - (intOf i).toNat)
  case atStart => exact ⟨0, Nat.zero_le _, rfl⟩
  case round =>
    obtain ⟨k, hk, rfl⟩ := hrel
    by_cases hlt : k < 17
    · have hix := kw_index k hlt
      unfold kwCells at hix
      have hki : (k : Int) < 17 := by omega
      have hc := H.out k hlt
      generalize kwArr.getD k ⟨#[]⟩ = X at *
      go_wp2
      go_round
      case rel => exact ⟨k + 1, by omega, by go_num⟩
      case measure => simp [intOf]; omega
    · go_wp2
      go_ret
      exact ⟨rfl, rfl⟩
set_option maxRecDepth 100000 in
set_option maxHeartbeats 1000000 in
theorem refKeyword_yes (s : ByteArray) (n : Nat) (w : World) (hn : n < 17) (hit : (s.toList == (kwArr.getD n ⟨#[]⟩).toList) = true) (h : ∀ k, k < n → (s.toList == (kwArr.getD k ⟨#[]⟩).toList) = false) : Calls Try.prog 59 #[.string s] w fun e w' => e = .returned (.bool true) ∧ w' = w := by
  have H : Hid (∀ k, k < n → (s.toList == (kwArr.getD k ⟨#[]⟩).toList) = false) := h
  have HH : Hid ((s.toList == (kwArr.getD n ⟨#[]⟩).toList) = true) := hit
  clear h hit
  go_enter Try.func59, Try.ntmps59
  go_wp2_with (refine wpList_build_to (by rfl) _ _ (by rfl) kwCells (kw_built _) ?_)
  go_loop [6] (fun i => ∃ k : Nat, k ≤ n ∧ i = .int .i64 (k : Int)) (fun i => 17 - (intOf i).toNat)
  case atStart => exact ⟨0, Nat.zero_le _, rfl⟩
  case round =>
    obtain ⟨k, hk, rfl⟩ := hrel
    have hk17 : k < 17 := by omega
    have hix := kw_index k hk17
    unfold kwCells at hix
    have hki : (k : Int) < 17 := by omega
    by_cases hlt : k < n
    · have hc := H.out k hlt
      generalize kwArr.getD k ⟨#[]⟩ = X at *
      go_wp2
      go_round
      case rel => exact ⟨k + 1, by omega, by go_num⟩
      case measure => simp [intOf]; omega
    · obtain rfl : k = n := by omega
      have hc := HH.out
      generalize kwArr.getD k ⟨#[]⟩ = X at *
      go_wp2
      go_ret
      exact ⟨rfl, rfl⟩
theorem refKeyword_any (s : ByteArray) (b : Bool) (h : kw s = b) (w : World) : Calls Try.prog 59 #[.string s] w fun e w' => e = .returned (.bool b) ∧ w' = w := by
  cases b with
  | true =>
    obtain ⟨k, hk, hc⟩ := (kw_hit s).1 h
    obtain ⟨n, hn, hx, hlt⟩ := least (fun j => (s.toList == (kwArr.getD j ⟨#[]⟩).toList) = false) 17 ⟨k, hk, by rw [hc]; decide⟩
    exact refKeyword_yes s n w hn (by cases hh : (s.toList == (kwArr.getD n ⟨#[]⟩).toList) with | true => rfl | false => exact absurd hh hx) hlt
  | false =>
    refine refKeyword_no s w fun k hk => ?_
    cases hc : (s.toList == (kwArr.getD k ⟨#[]⟩).toList) with
    | false => rfl
    | true => exact absurd ((kw_hit s).2 ⟨k, hk, hc⟩) (by rw [h]; decide)
end Go.Proofs.Ytnfkjmafhaecgaa
