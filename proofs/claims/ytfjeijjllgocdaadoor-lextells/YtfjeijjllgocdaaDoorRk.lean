/- What the reference's Keyword, isWord, IsName answer, at whatever memory. -/
import Derived.Test.YtfjeijjllgocdaaDoorIsName
import Derived.Test.YtfjeijjllgocdaaDoorBig
namespace Go.Proofs.YtfjeijjllgocdaaDoor
open Go.RowKit

def kwArr : Array ByteArray := #[⟨#[118, 97, 114]⟩, ⟨#[119, 105, 100, 101]⟩, ⟨#[97, 116, 111, 109, 105, 99]⟩, ⟨#[108, 111, 99, 97, 108]⟩, ⟨#[109, 117, 116, 101, 120]⟩, ⟨#[99, 104, 97, 110]⟩, ⟨#[103, 111]⟩, ⟨#[108, 111, 99, 107]⟩, ⟨#[117, 110, 108, 111, 99, 107]⟩, ⟨#[115, 101, 110, 100]⟩, ⟨#[114, 101, 99, 118]⟩, ⟨#[112, 114, 105, 110, 116]⟩, ⟨#[105, 102]⟩, ⟨#[101, 108, 115, 101]⟩, ⟨#[114, 101, 112, 101, 97, 116]⟩, ⟨#[103, 111, 116, 111]⟩, ⟨#[108, 97, 98, 101, 108]⟩]
def kwCells : Array Value := kwArr.map Value.string
theorem kw_built (a : Act) : Tryd.prog.built 56 ((#[(0, Operand.const (.string ⟨#[118, 97, 114]⟩)), (1, Operand.const (.string ⟨#[119, 105, 100, 101]⟩)), (2, Operand.const (.string ⟨#[97, 116, 111, 109, 105, 99]⟩)), (3, Operand.const (.string ⟨#[108, 111, 99, 97, 108]⟩)), (4, Operand.const (.string ⟨#[109, 117, 116, 101, 120]⟩)), (5, Operand.const (.string ⟨#[99, 104, 97, 110]⟩)), (6, Operand.const (.string ⟨#[103, 111]⟩)), (7, Operand.const (.string ⟨#[108, 111, 99, 107]⟩)), (8, Operand.const (.string ⟨#[117, 110, 108, 111, 99, 107]⟩)), (9, Operand.const (.string ⟨#[115, 101, 110, 100]⟩)), (10, Operand.const (.string ⟨#[114, 101, 99, 118]⟩)), (11, Operand.const (.string ⟨#[112, 114, 105, 110, 116]⟩)), (12, Operand.const (.string ⟨#[105, 102]⟩)), (13, Operand.const (.string ⟨#[101, 108, 115, 101]⟩)), (14, Operand.const (.string ⟨#[114, 101, 112, 101, 97, 116]⟩)), (15, Operand.const (.string ⟨#[103, 111, 116, 111]⟩)), (16, Operand.const (.string ⟨#[108, 97, 98, 101, 108]⟩))] : Array (Nat × Operand)).map fun (i, x) => (i, a.eval x)).toList = some kwCells := by kernel_rfl

theorem kw_index (k : Nat) (hk : k < 17) (w : World) : (Instr.index 56 (.agg kwCells) (.int .i64 (k : Int))).run Tryd.prog w = .ok (.string (kwArr.getD k ⟨#[]⟩)) w := by
  have h9 := Tryd.sizeOf9
  have ha := Tryd.isAgg9
  have h : kwCells[k]? = some (.string (kwArr.getD k ⟨#[]⟩)) := by
    have hs : k < kwArr.size := by rw [show kwArr.size = 17 by rfl]; exact hk
    simp [kwCells, hs, Array.getD]
  simp [Instr.index, go_sem, h9, ha, h]
  intro hge
  omega

theorem kw_hit (s : ByteArray) : kw s = true ↔ ∃ k, k < 17 ∧ (s.toList == (kwArr.getD k ⟨#[]⟩).toList) = true := by
  have e : kws = (List.range 17).map fun k => (kwArr.getD k ⟨#[]⟩).toList := by decide +kernel
  unfold kw
  rw [List.any_eq_true, e]
  constructor
  · rintro ⟨x, hx, h⟩
    obtain ⟨k, hk, rfl⟩ := List.mem_map.1 hx
    exact ⟨k, List.mem_range.1 hk, h⟩
  · rintro ⟨k, hk, h⟩
    exact ⟨_, List.mem_map.2 ⟨k, List.mem_range.2 hk, rfl⟩, h⟩

set_option maxRecDepth 100000 in
set_option maxHeartbeats 1000000 in
theorem refKeyword_no (s : ByteArray) (w : World) (h : ∀ k, k < 17 → (s.toList == (kwArr.getD k ⟨#[]⟩).toList) = false) : Calls Tryd.prog 16 #[.string s] w fun e w' => e = .returned (.bool false) ∧ w' = w := by
  have H : Hid (∀ k, k < 17 → (s.toList == (kwArr.getD k ⟨#[]⟩).toList) = false) := h
  clear h
  go_enter Tryd.func16, Tryd.ntmps16
  go_wp2_with (refine wpList_build_to (by rfl) _ _ (by rfl) kwCells (kw_built _) ?_)
  go_loop [6] (fun i => ∃ k : Nat, k ≤ 17 ∧ i = .int .i64 (k : Int)) (fun i => 17 - (intOf i).toNat)
  case atStart => exact ⟨0, Nat.zero_le _, rfl⟩
  case round =>
    obtain ⟨k, hk, rfl⟩ := hrel
    by_cases hlt : k < 17
    · have hix := kw_index k hlt
      have hki : (k : Int) < 17 := by omega
      have hc := H.out k hlt
      generalize kwArr.getD k ⟨#[]⟩ = X at *
      go_wp2
      go_round
      case rel => exact ⟨k + 1, by omega, by go_num⟩
      case measure => simp [intOf]; omega
    · go_wp2
      go_ret
      exact ⟨rfl, rfl⟩

set_option maxRecDepth 100000 in
set_option maxHeartbeats 1000000 in
theorem refKeyword_yes (s : ByteArray) (n : Nat) (w : World) (hn : n < 17) (hit : (s.toList == (kwArr.getD n ⟨#[]⟩).toList) = true) (h : ∀ k, k < n → (s.toList == (kwArr.getD k ⟨#[]⟩).toList) = false) : Calls Tryd.prog 16 #[.string s] w fun e w' => e = .returned (.bool true) ∧ w' = w := by
  have H : Hid (∀ k, k < n → (s.toList == (kwArr.getD k ⟨#[]⟩).toList) = false) := h
  have HH : Hid ((s.toList == (kwArr.getD n ⟨#[]⟩).toList) = true) := hit
  clear h hit
  go_enter Tryd.func16, Tryd.ntmps16
  go_wp2_with (refine wpList_build_to (by rfl) _ _ (by rfl) kwCells (kw_built _) ?_)
  go_loop [6] (fun i => ∃ k : Nat, k ≤ n ∧ i = .int .i64 (k : Int)) (fun i => 17 - (intOf i).toNat)
  case atStart => exact ⟨0, Nat.zero_le _, rfl⟩
  case round =>
    obtain ⟨k, hk, rfl⟩ := hrel
    have hk17 : k < 17 := by omega
    have hix := kw_index k hk17
    have hki : (k : Int) < 17 := by omega
    by_cases hlt : k < n
    · have hc := H.out k hlt
      generalize kwArr.getD k ⟨#[]⟩ = X at *
      go_wp2
      go_round
      case rel => exact ⟨k + 1, by omega, by go_num⟩
      case measure => simp [intOf]; omega
    · obtain rfl : k = n := by omega
      have hc := HH.out
      generalize kwArr.getD k ⟨#[]⟩ = X at *
      go_wp2
      go_ret
      exact ⟨rfl, rfl⟩

theorem refKeyword_any (s : ByteArray) (b : Bool) (h : kw s = b) (w : World) : Calls Tryd.prog 16 #[.string s] w fun e w' => e = .returned (.bool b) ∧ w' = w := by
  cases b with
  | true =>
    obtain ⟨k, hk, hc⟩ := (kw_hit s).1 h
    obtain ⟨n, hn, hx, hlt⟩ := least (fun j => (s.toList == (kwArr.getD j ⟨#[]⟩).toList) = false) 17 ⟨k, hk, by rw [hc]; decide⟩
    exact refKeyword_yes s n w hn (by cases hh : (s.toList == (kwArr.getD n ⟨#[]⟩).toList) with | true => rfl | false => exact absurd hh hx) hlt
  | false =>
    refine refKeyword_no s w fun k hk => ?_
    cases hc : (s.toList == (kwArr.getD k ⟨#[]⟩).toList) with
    | false => rfl
    | true => exact absurd ((kw_hit s).2 ⟨k, hk, hc⟩) (by rw [h]; decide)

/-- May this byte stand at place k of a word? -/
def wordAt (s : ByteArray) (k : Nat) (h : k < s.size) : Bool := Lx.lower s[k] || (!decide (k = 0) && Lx.digit s[k])

set_option maxHeartbeats 1000000 in
theorem isWord_some (s : ByteArray) (n : Nat) (w : World) (hs : s.size ≤ 1125899906842624) (hn : n < s.size) (hx : wordAt s n hn = false) (hg : ∀ k (hk : k < s.size), k < n → wordAt s k hk = true) : Calls Tryd.prog 26 #[.string s] w fun e w' => e = .returned (.bool false) ∧ w' = w := by
  have G : Hid (∀ k (hk : k < s.size), k < n → wordAt s k hk = true) := hg
  have X : Hid (wordAt s n hn = false) := hx
  clear hg hx
  go_enter Tryd.func26, Tryd.ntmps26
  go_wp2
  go_loop [3] (fun i => ∃ k : Nat, k ≤ n ∧ i = .int .i64 (k : Int)) (fun i => s.size - (intOf i).toNat)
  case atStart => exact ⟨0, Nat.zero_le _, rfl⟩
  case round =>
    obtain ⟨k, hk, rfl⟩ := hrel
    have hks : k < s.size := by omega
    have hki : (k : Int) < (s.size : Int) := by omega
    by_cases hlt : k < n
    · have hw := G.out k hks hlt
      unfold wordAt at hw
      cases hl : Lx.lower s[k] with
      | true =>
        have L : Hid (∀ w, _) := letter_at s[k] true hl
        clear hw hl
        go_wp2_with fail
        refine (L.out _).mono ?_
        rintro e w1 ⟨rfl, rfl⟩
        go_wp2
        go_round
        case rel => exact ⟨k + 1, by omega, by go_num⟩
        case measure => simp [intOf]; omega
      | false =>
        rw [hl] at hw
        have hk0 : k ≠ 0 := by intro e; subst e; simp at hw
        have hd : Lx.digit s[k] = true := by simpa [hk0] using hw
        have L : Hid (∀ w, _) := letter_at s[k] false hl
        have D : Hid (∀ w, _) := digit_at s[k] true hd
        have hkz : ((k : Int) == 0) = false := by rw [beq_eq_false_iff_ne]; omega
        clear hw hl hd
        go_wp2_with fail
        refine (L.out _).mono ?_
        rintro e w1 ⟨rfl, rfl⟩
        go_wp2_with fail
        refine (D.out _).mono ?_
        rintro e w1 ⟨rfl, rfl⟩
        go_wp2
        go_round
        case rel => exact ⟨k + 1, by omega, by go_num⟩
        case measure => simp [intOf]; omega
    · obtain rfl : k = n := by omega
      have hw := X.out
      unfold wordAt at hw
      have hl : Lx.lower s[k] = false := by
        cases h : Lx.lower s[k] with
        | false => rfl
        | true => rw [h] at hw; simp at hw
      have L : Hid (∀ w, _) := letter_at s[k] false hl
      by_cases hk0 : k = 0
      · have hkz : ((k : Int) == 0) = true := by rw [beq_iff_eq]; omega
        clear hw hl hk0
        go_wp2_with fail
        refine (L.out _).mono ?_
        rintro e w1 ⟨rfl, rfl⟩
        go_wp2
        go_ret
        exact ⟨rfl, rfl⟩
      · have hkz : ((k : Int) == 0) = false := by rw [beq_eq_false_iff_ne]; omega
        rw [hl] at hw
        have hd : Lx.digit s[k] = false := by simpa [hk0] using hw
        have D : Hid (∀ w, _) := digit_at s[k] false hd
        clear hw hl hd
        go_wp2_with fail
        refine (L.out _).mono ?_
        rintro e w1 ⟨rfl, rfl⟩
        go_wp2_with fail
        refine (D.out _).mono ?_
        rintro e w1 ⟨rfl, rfl⟩
        go_wp2
        go_ret
        exact ⟨rfl, rfl⟩

end Go.Proofs.YtfjeijjllgocdaaDoor
