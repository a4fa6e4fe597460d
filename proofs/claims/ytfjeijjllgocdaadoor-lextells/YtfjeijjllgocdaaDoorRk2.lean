/- What the reference's isWord and IsName answer, at whatever memory. -/
import Derived.Test.YtfjeijjllgocdaaDoorRk
namespace Go.Proofs.YtfjeijjllgocdaaDoor
open Go.RowKit

set_option maxHeartbeats 1000000 in
theorem isWord_all (s : ByteArray) (b : Bool) (w : World) (hs : s.size ≤ 1125899906842624) (hg : ∀ k (hk : k < s.size), wordAt s k hk = true) (hb : (decide (0 < s.size) && decide (s.size ≤ 12)) = b) : Calls Tryd.prog 26 #[.string s] w fun e w' => e = .returned (.bool b) ∧ w' = w := by
  have G : Hid (∀ k (hk : k < s.size), wordAt s k hk = true) := hg
  have HB : Hid ((decide (0 < s.size) && decide (s.size ≤ 12)) = b) := hb
  clear hg hb
  go_enter Tryd.func26, Tryd.ntmps26
  go_wp2
  go_loop [3] (fun i => ∃ k : Nat, k ≤ s.size ∧ i = .int .i64 (k : Int)) (fun i => s.size - (intOf i).toNat)
  case atStart => exact ⟨0, Nat.zero_le _, rfl⟩
  case round =>
    obtain ⟨k, hk, rfl⟩ := hrel
    by_cases hks : k < s.size
    · have hki : (k : Int) < (s.size : Int) := by omega
      have hw := G.out k hks
      unfold wordAt at hw
      cases hl : Lx.lower s[k] with
      | true =>
        have L : Hid (∀ w, _) := letter_at s[k] true hl
        clear hw hl
        go_wp2_with fail
        refine (L.out _).mono ?_
        rintro e w1 ⟨rfl, rfl⟩
        go_wp2
        go_round
        case rel => exact ⟨k + 1, by omega, by go_num⟩
        case measure => simp [intOf]; omega
      | false =>
        rw [hl] at hw
        have hk0 : k ≠ 0 := by intro e; subst e; simp at hw
        have hd : Lx.digit s[k] = true := by simpa [hk0] using hw
        have L : Hid (∀ w, _) := letter_at s[k] false hl
        have D : Hid (∀ w, _) := digit_at s[k] true hd
        have hkz : ((k : Int) == 0) = false := by rw [beq_eq_false_iff_ne]; omega
        clear hw hl hd
        go_wp2_with fail
        refine (L.out _).mono ?_
        rintro e w1 ⟨rfl, rfl⟩
        go_wp2_with fail
        refine (D.out _).mono ?_
        rintro e w1 ⟨rfl, rfl⟩
        go_wp2
        go_round
        case rel => exact ⟨k + 1, by omega, by go_num⟩
        case measure => simp [intOf]; omega
    · obtain rfl : k = s.size := by omega
      by_cases h0 : 0 < s.size
      · have he := empty_no s h0
        have hen : (s.toList != []) = true := by rw [bne, he]; rfl
        go_wp2
        go_ret
        refine ⟨ret_bool ?_, rfl⟩
        rw [← HB.out, decide_eq_true h0, Bool.true_and]
        exact decide_eq_decide.2 (by omega)
      · have he : (s.toList == []) = true := by
          rw [toList_data]
          have hll : s.data.toList.length = s.size := by simp
          have : s.data.toList.length = 0 := by omega
          rw [List.length_eq_zero_iff.1 this]; rfl
        have hen : (s.toList != []) = false := by rw [bne, he]; rfl
        go_wp2
        go_ret
        exact ⟨ret_bool (by rw [← HB.out, decide_eq_false h0]; rfl), rfl⟩

theorem isWord_any (s : ByteArray) (b : Bool) (hs : s.size ≤ 1125899906842624) (hb : Lx.isWord s.data.toList = b) (w : World) : Calls Tryd.prog 26 #[.string s] w fun e w' => e = .returned (.bool b) ∧ w' = w := by
  by_cases hg : ∀ k (hk : k < s.size), wordAt s k hk = true
  · refine isWord_all s b w hs hg ?_
    rw [← hb, Bool.eq_iff_iff, isWord_iff]
    simp only [Bool.and_eq_true, decide_eq_true_eq]
    constructor
    · rintro ⟨h0, h12⟩
      refine ⟨h0, ?_, h12, fun j hj => ?_⟩
      · have := hg 0 h0; simpa [wordAt] using this
      · have := hg j hj
        unfold wordAt at this
        unfold Lx.goes
        cases hl : Lx.lower s[j] with
        | true => rfl
        | false => rw [hl] at this; simp at this; rw [this.2]; rfl
    · rintro ⟨h0, _, h12, _⟩
      exact ⟨h0, h12⟩
  · have hbf : b = false := by
      rw [← hb]
      cases hw : Lx.isWord s.data.toList with
      | false => rfl
      | true =>
        obtain ⟨h0, h1, h2, h3⟩ := (isWord_iff s).1 hw
        exfalso
        apply hg
        intro k hk
        unfold wordAt
        by_cases hk0 : k = 0
        · subst hk0; rw [h1]; rfl
        · have := h3 k hk
          unfold Lx.goes at this
          simpa [hk0] using this
    subst hbf
    have hex : ∃ j, j < s.size ∧ ¬ (∀ hj : j < s.size, wordAt s j hj = true) := by
      apply Classical.byContradiction
      intro hn
      apply hg
      intro j hj
      apply Classical.byContradiction
      intro hx
      exact hn ⟨j, hj, fun h => hx (h hj)⟩
    obtain ⟨n, hn, hx, hlt⟩ := least (fun j => ∀ hj : j < s.size, wordAt s j hj = true) s.size hex
    have hx2 : wordAt s n hn = false := by
      cases h : wordAt s n hn with
      | false => rfl
      | true => exact absurd (fun _ => h) hx
    exact isWord_some s n w hs hn hx2 (fun k hk hkn => hlt k hkn hk)

set_option maxHeartbeats 400000 in
theorem refIsName_any (s : ByteArray) (b : Bool) (hs : s.size ≤ 1125899906842624) (hb : nm s = b) (w : World) : Calls Tryd.prog 17 #[.string s] w fun e w' => e = .returned (.bool b) ∧ w' = w := by
  cases hw : Lx.isWord s.data.toList with
  | false =>
    have W : Hid (∀ w, _) := isWord_any s false hs hw
    have hbf : b = false := by rw [← hb, nm, hw]; rfl
    subst hbf
    clear hw hb
    go_enter Tryd.func17, Tryd.ntmps17
    go_wp2_with fail
    refine (W.out _).mono ?_
    rintro e w1 ⟨rfl, rfl⟩
    go_wp2
    go_ret
    exact ⟨rfl, rfl⟩
  | true =>
    obtain ⟨kb, hkb⟩ : ∃ kb, kw s = kb := ⟨_, rfl⟩
    have W : Hid (∀ w, _) := isWord_any s true hs hw
    have K : Hid (∀ w, _) := refKeyword_any s kb hkb
    have hbf : b = !kb := by rw [← hb, nm, hw, hkb]; rfl
    subst hbf
    clear hw hb hkb
    go_enter Tryd.func17, Tryd.ntmps17
    go_wp2_with fail
    refine (W.out _).mono ?_
    rintro e w1 ⟨rfl, rfl⟩
    go_wp2_with fail
    refine (K.out _).mono ?_
    rintro e w1 ⟨rfl, rfl⟩
    go_wp2
    go_ret
    exact ⟨rfl, rfl⟩

end Go.Proofs.YtfjeijjllgocdaaDoor
