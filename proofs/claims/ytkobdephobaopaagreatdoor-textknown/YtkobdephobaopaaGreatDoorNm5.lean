/- What lex.Keyword, lex.IsName answer, at whatever memory. What lex.IsName answers, at whatever memory. -/
import Derived.Test.YtkobdephobaopaaGreatDoorWkB
import Derived.Test.YtkobdephobaopaaGreatDoorLxA

namespace Go.Proofs.YtkobdephobaopaaGreatDoor
open Go.RowKit

def kws : List (List UInt8) := [[118, 97, 114], [119, 105, 100, 101], [97, 116, 111, 109, 105, 99], [108, 111, 99, 97, 108], [109, 117, 116, 101, 120], [99, 104, 97, 110],
  [103, 111], [108, 111, 99, 107], [117, 110, 108, 111, 99, 107], [115, 101, 110, 100], [114, 101, 99, 118], [112, 114, 105, 110, 116],
  [105, 102], [101, 108, 115, 101], [114, 101, 112, 101, 97, 116], [103, 111, 116, 111], [108, 97, 98, 101, 108]]
/-- Is it a keyword? -/
def kw (s : ByteArray) : Bool := kws.any (s.toList == ·)

set_option maxHeartbeats 2000000 in
theorem keyword_no (s : ByteArray) (w : World) (h : kw s = false) : Calls Tryz.prog 120 #[.string s] w fun e w' => e = .returned (.bool false) ∧ w' = w := by
  simp only [kw, kws, List.any_cons, List.any_nil, Bool.or_false, Bool.or_eq_false_iff] at h
  obtain ⟨h1, h2, h3, h4, h5, h6, h7, h8, h9, h10, h11, h12, h13, h14, h15, h16, h17⟩ := h
  go_enter Tryz.func120, Tryz.ntmps120
  go_wp2
  go_ret
  exact ⟨rfl, rfl⟩

set_option maxHeartbeats 2000000 in
theorem keyword_yes (s : ByteArray) (w : World) (h : kw s = true) : Calls Tryz.prog 120 #[.string s] w fun e w' => e = .returned (.bool true) ∧ w' = w := by
  simp only [kw, kws, List.any_cons, List.any_nil, Bool.or_false, Bool.or_eq_true, beq_iff_eq] at h
  rcases h with h | h | h | h | h | h | h | h | h | h | h | h | h | h | h | h | h
  all_goals
    go_enter Tryz.func120, Tryz.ntmps120
    go_wp2
    go_ret
    exact ⟨rfl, rfl⟩

theorem keyword_any (s : ByteArray) (b : Bool) (h : kw s = b) (w : World) : Calls Tryz.prog 120 #[.string s] w fun e w' => e = .returned (.bool b) ∧ w' = w := by
  cases b with
  | true => exact keyword_yes s w h
  | false => exact keyword_no s w h

end Go.Proofs.YtkobdephobaopaaGreatDoor

namespace Go.Proofs.YtkobdephobaopaaGreatDoor
open Go.RowKit

/-- Is it a name? -/
def nm (s : ByteArray) : Bool := Lx.isWord s.data.toList && !kw s

theorem toList_data (s : ByteArray) : s.toList = s.data.toList := by rw [ByteArray.toList_eq]

theorem empty_no (s : ByteArray) (h : 0 < s.size) : (s.toList == []) = false := by
  rw [toList_data]
  have : 0 < s.data.toList.length := by simpa using h
  cases hl : s.data.toList with
  | nil => rw [hl] at this; simp at this
  | cons c r => rfl

theorem isWord_iff (s : ByteArray) : Lx.isWord s.data.toList = true ↔ ∃ h : 0 < s.size, Lx.lower s[0] = true ∧ s.size ≤ 12 ∧ ∀ j (hj : j < s.size), Lx.goes s[j] = true := by
  have hll : s.data.toList.length = s.size := by simp
  constructor
  · intro h
    cases hl : s.data.toList with
    | nil => rw [hl] at h; cases h
    | cons c r =>
      have h0 : 0 < s.size := by rw [← hll, hl]; simp
      have e0 : s[0] = c := by
        have : s.data.toList[0]'(by omega) = s[0] := by rw [Array.getElem_toList]; rfl
        rw [← this]; simp [hl]
      rw [hl] at h
      simp only [Lx.isWord, Bool.and_eq_true, decide_eq_true_eq, List.all_eq_true] at h
      refine ⟨h0, by rw [e0]; exact h.1.1, by rw [← hll, hl]; simp; omega, fun j hj => ?_⟩
      have e : s.data.toList[j]'(by omega) = s[j] := by rw [Array.getElem_toList]; rfl
      rw [← e]
      cases j with
      | zero =>
        have : s.data.toList[0]'(by omega) = c := by simp [hl]
        rw [this, Lx.goes, h.1.1]; rfl
      | succ j =>
        apply h.1.2
        have : s.data.toList[j + 1]'(by omega) ∈ s.data.toList.tail := by
          rw [← List.getElem_tail (h := by rw [List.length_tail]; omega)]
          exact List.getElem_mem _
        have ht : s.data.toList.tail = r := by rw [hl]; rfl
        rw [ht] at this
        exact this
  · rintro ⟨h0, h1, h2, h3⟩
    cases hl : s.data.toList with
    | nil => rw [hl] at hll; simp at hll; omega
    | cons c r =>
      have e0 : s[0] = c := by
        have : s.data.toList[0]'(by omega) = s[0] := by rw [Array.getElem_toList]; rfl
        rw [← this]; simp [hl]
      rw [hl] at hll
      simp at hll
      simp only [Lx.isWord, Bool.and_eq_true, decide_eq_true_eq, List.all_eq_true]
      refine ⟨⟨by rw [← e0]; exact h1, fun x hx => ?_⟩, by omega⟩
      obtain ⟨j, hj, rfl⟩ := List.mem_iff_getElem.1 hx
      have hj2 : j + 1 < s.size := by omega
      have := h3 (j + 1) hj2
      have e : s.data.toList[j + 1]'(by simpa using hj2) = s[j + 1] := by rw [Array.getElem_toList]; rfl
      rw [← e] at this
      simpa [hl] using this

set_option maxHeartbeats 1000000 in
theorem isName_empty (s : ByteArray) (w : World) (h : s.size = 0) : Calls Tryz.prog 109 #[.string s] w fun e w' => e = .returned (.bool false) ∧ w' = w := by
  have hb : (s.toList == []) = true := by
    rw [toList_data]
    have : s.data.toList.length = 0 := by simpa using h
    rw [List.length_eq_zero_iff.1 this]; rfl
  clear h
  go_enter Tryz.func109, Tryz.ntmps109
  go_wp2
  go_ret
  exact ⟨rfl, rfl⟩

set_option maxHeartbeats 1000000 in
theorem isName_long (s : ByteArray) (w : World) (h : 12 < s.size) : Calls Tryz.prog 109 #[.string s] w fun e w' => e = .returned (.bool false) ∧ w' = w := by
  have hb := empty_no s (by omega)
  have hl : decide ((12 : Int) < (s.size : Int)) = true := decide_eq_true (by omega)
  clear h
  go_enter Tryz.func109, Tryz.ntmps109
  go_wp2
  go_ret
  exact ⟨rfl, rfl⟩

set_option maxHeartbeats 1000000 in
theorem isName_head (s : ByteArray) (w : World) (h : 0 < s.size) (h2 : s.size ≤ 12) (hh : Lx.lower s[0] = false) : Calls Tryz.prog 109 #[.string s] w fun e w' => e = .returned (.bool false) ∧ w' = w := by
  have hb := empty_no s (by omega)
  have hl : decide ((12 : Int) < (s.size : Int)) = false := decide_eq_false (by omega)
  have h0 : (0 : Int) < (s.size : Int) := by omega
  have L : Hid (∀ w, _) := isLetter_at s[0] false hh
  clear hh
  go_enter Tryz.func109, Tryz.ntmps109
  go_wp2_with fail
  refine (L.out _).mono ?_
  rintro e w1 ⟨rfl, rfl⟩
  go_wp2
  go_ret
  exact ⟨rfl, rfl⟩

set_option maxHeartbeats 1000000 in
theorem isName_kw (s : ByteArray) (w : World) (h : 0 < s.size) (h2 : s.size ≤ 12) (hh : Lx.lower s[0] = true) (hk : kw s = true) : Calls Tryz.prog 109 #[.string s] w fun e w' => e = .returned (.bool false) ∧ w' = w := by
  have hb := empty_no s (by omega)
  have hl : decide ((12 : Int) < (s.size : Int)) = false := decide_eq_false (by omega)
  have h0 : (0 : Int) < (s.size : Int) := by omega
  have L : Hid (∀ w, _) := isLetter_at s[0] true hh
  have K : Hid (∀ w, _) := keyword_any s true hk
  clear hh hk
  go_enter Tryz.func109, Tryz.ntmps109
  go_wp2_with fail
  refine (L.out _).mono ?_
  rintro e w1 ⟨rfl, rfl⟩
  go_wp2_with fail
  refine (K.out _).mono ?_
  rintro e w1 ⟨rfl, rfl⟩
  go_wp2
  go_ret
  exact ⟨rfl, rfl⟩

set_option maxHeartbeats 1000000 in
theorem isName_all (s : ByteArray) (w : World) (h : 0 < s.size) (h2 : s.size ≤ 12) (hh : Lx.lower s[0] = true) (hk : kw s = false) (hg : ∀ j (hj : j < s.size), Lx.goes s[j] = true) : Calls Tryz.prog 109 #[.string s] w fun e w' => e = .returned (.bool true) ∧ w' = w := by
  have hb := empty_no s (by omega)
  have hl : decide ((12 : Int) < (s.size : Int)) = false := decide_eq_false (by omega)
  have h0 : (0 : Int) < (s.size : Int) := by omega
  have L : Hid (∀ w, _) := isLetter_at s[0] true hh
  have K : Hid (∀ w, _) := keyword_any s false hk
  have G : Hid (∀ j (hj : j < s.size), Lx.goes s[j] = true) := hg
  clear hh hk hg
  go_enter Tryz.func109, Tryz.ntmps109
  go_wp2_with fail
  refine (L.out _).mono ?_
  rintro e w1 ⟨rfl, rfl⟩
  go_wp2_with fail
  refine (K.out _).mono ?_
  rintro e w1 ⟨rfl, rfl⟩
  go_wp2
  go_loop [23] (fun i => ∃ k : Nat, k ≤ s.size ∧ i = .int .i64 k) (fun i => s.size - (intOf i).toNat)
  case atStart => exact ⟨0, Nat.zero_le _, rfl⟩
  case round =>
    obtain ⟨k, hk, rfl⟩ := hrel
    by_cases hlt : k < s.size
    · have C : Hid (∀ w, _) := goesOn_at s[k] true (G.out k hlt)
      go_wp2_with (go_at_call 84; refine (C.out _).mono ?_; rintro e w' ⟨rfl, rfl⟩)
      go_round
      case rel => exact ⟨k + 1, by omega, by go_num⟩
      case measure => simp [intOf]; omega
    · go_wp2
      go_ret
      exact ⟨rfl, rfl⟩

set_option maxHeartbeats 1000000 in
theorem isName_some (s : ByteArray) (n : Nat) (w : World) (h : 0 < s.size) (h2 : s.size ≤ 12) (hh : Lx.lower s[0] = true) (hk : kw s = false) (hn : n < s.size) (hg : ∀ j (hj : j < s.size), j < n → Lx.goes s[j] = true) (hx : Lx.goes s[n] = false) : Calls Tryz.prog 109 #[.string s] w fun e w' => e = .returned (.bool false) ∧ w' = w := by
  have hb := empty_no s (by omega)
  have hl : decide ((12 : Int) < (s.size : Int)) = false := decide_eq_false (by omega)
  have h0 : (0 : Int) < (s.size : Int) := by omega
  have L : Hid (∀ w, _) := isLetter_at s[0] true hh
  have K : Hid (∀ w, _) := keyword_any s false hk
  have G : Hid (∀ j (hj : j < s.size), j < n → Lx.goes s[j] = true) := hg
  have X : Hid (∀ w, _) := goesOn_at s[n] false hx
  clear hh hk hg hx
  go_enter Tryz.func109, Tryz.ntmps109
  go_wp2_with fail
  refine (L.out _).mono ?_
  rintro e w1 ⟨rfl, rfl⟩
  go_wp2_with fail
  refine (K.out _).mono ?_
  rintro e w1 ⟨rfl, rfl⟩
  go_wp2
  go_loop [23] (fun i => ∃ k : Nat, k ≤ n ∧ i = .int .i64 k) (fun i => s.size - (intOf i).toNat)
  case atStart => exact ⟨0, Nat.zero_le _, rfl⟩
  case round =>
    obtain ⟨k, hk, rfl⟩ := hrel
    have hks : k < s.size := by omega
    by_cases hlt : k < n
    · have C : Hid (∀ w, _) := goesOn_at s[k] true (G.out k hks hlt)
      go_wp2_with (go_at_call 84; refine (C.out _).mono ?_; rintro e w' ⟨rfl, rfl⟩)
      go_round
      case rel => exact ⟨k + 1, by omega, by go_num⟩
      case measure => simp [intOf]; omega
    · obtain rfl : k = n := by omega
      go_wp2_with (go_at_call 84; refine (X.out _).mono ?_; rintro e w' ⟨rfl, rfl⟩)
      go_ret
      exact ⟨rfl, rfl⟩

theorem least (P : Nat → Prop) [DecidablePred P] (N : Nat) (h : ∃ j, j < N ∧ ¬ P j) : ∃ n, n < N ∧ ¬ P n ∧ ∀ j, j < n → P j := by
  induction N with
  | zero => obtain ⟨j, hj, _⟩ := h; omega
  | succ N ih =>
    by_cases h2 : ∃ j, j < N ∧ ¬ P j
    · obtain ⟨n, h3, h4, h5⟩ := ih h2
      exact ⟨n, by omega, h4, h5⟩
    · obtain ⟨j, hj, hp⟩ := h
      have hjN : j = N := by
        apply Classical.byContradiction
        intro hne
        exact h2 ⟨j, by omega, hp⟩
      subst hjN
      refine ⟨j, by omega, hp, fun i hi => ?_⟩
      apply Classical.byContradiction
      intro hni
      exact h2 ⟨i, hi, hni⟩

theorem isName_any (s : ByteArray) (b : Bool) (hb : nm s = b) (w : World) : Calls Tryz.prog 109 #[.string s] w fun e w' => e = .returned (.bool b) ∧ w' = w := by
  by_cases h0 : s.size = 0
  · have : b = false := by
      rw [← hb, nm]
      cases hw : Lx.isWord s.data.toList with
      | false => rfl
      | true => obtain ⟨h, _⟩ := (isWord_iff s).1 hw; omega
    subst this
    exact isName_empty s w h0
  have h0 : 0 < s.size := by omega
  by_cases h1 : 12 < s.size
  · have : b = false := by
      rw [← hb, nm]
      cases hw : Lx.isWord s.data.toList with
      | false => rfl
      | true => obtain ⟨_, _, h, _⟩ := (isWord_iff s).1 hw; omega
    subst this
    exact isName_long s w h1
  have h1 : s.size ≤ 12 := by omega
  cases hl : Lx.lower s[0] with
  | false =>
    have : b = false := by
      rw [← hb, nm]
      cases hw : Lx.isWord s.data.toList with
      | false => rfl
      | true => obtain ⟨_, h, _⟩ := (isWord_iff s).1 hw; rw [hl] at h; cases h
    subst this
    exact isName_head s w h0 h1 hl
  | true =>
    cases hk : kw s with
    | true =>
      have : b = false := by rw [← hb, nm, hk]; simp
      subst this
      exact isName_kw s w h0 h1 hl hk
    | false =>
      by_cases hg : ∀ j (hj : j < s.size), Lx.goes s[j] = true
      · have : b = true := by rw [← hb, nm, hk, (isWord_iff s).2 ⟨h0, hl, h1, hg⟩]; rfl
        subst this
        exact isName_all s w h0 h1 hl hk hg
      · have : b = false := by
          rw [← hb, nm]
          cases hw : Lx.isWord s.data.toList with
          | false => rfl
          | true => obtain ⟨_, _, _, h⟩ := (isWord_iff s).1 hw; exact absurd h hg
        subst this
        have hex : ∃ j, j < s.size ∧ ¬ (∀ hj : j < s.size, Lx.goes s[j] = true) := by
          apply Classical.byContradiction
          intro hn
          apply hg
          intro j hj
          apply Classical.byContradiction
          intro hx
          exact hn ⟨j, hj, fun h => hx (h hj)⟩
        obtain ⟨n, hn, hx, hlt⟩ := least (fun j => ∀ hj : j < s.size, Lx.goes s[j] = true) s.size hex
        have hx2 : Lx.goes s[n] = false := by
          cases h : Lx.goes s[n] with
          | false => rfl
          | true => exact absurd (fun _ => h) hx
        exact isName_some s n w h0 h1 hl hk hn (fun j hj hjn => hlt j hjn hj) hx2

end Go.Proofs.YtkobdephobaopaaGreatDoor
