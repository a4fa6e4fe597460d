/- The law of LexTells where the text is not split, at whatever memory. -/
import Derived.Test.YtfjeijjllgocdaaDoorRw
import Derived.Test.YtfjeijjllgocdaaDoorWalksD
import Derived.Test.YtfjeijjllgocdaaDoorKnown
import Derived.Test.YtfjeijjllgocdaaDoorPrefix
import Derived.Test.YtfjeijjllgocdaaDoorKw
import Derived.Test.YtfjeijjllgocdaaDoorRk2
namespace Go.Proofs.YtfjeijjllgocdaaDoor
open Go.RowKit

theorem run_bad (f : Nat) : ∀ (p : Nat) (l : List UInt8) (q : Nat), l.length < f → Lx.run f p l = .bad q → q ≤ p + l.length := by
  induction f with
  | zero => intro p l q h; omega
  | succ f ih =>
    intro p l q hf h
    cases l with
    | nil => cases h
    | cons c r =>
      rw [Lx.run] at h
      rw [List.length_cons] at hf ⊢
      split at h
      · have := ih _ _ _ (by omega) h; omega
      · split at h
        · have h1 : (r.takeWhile Lx.noFeed).length ≤ r.length := (List.takeWhile_prefix _).length_le
          have := ih _ _ _ (by rw [List.length_drop]; omega) h
          rw [List.length_drop] at this; omega
        · split at h
          · simp only [Lx.Out.bad.injEq] at h; omega
          · rename_i k len n ho
            have hl := Lx.one_len ho
            rw [List.length_cons] at hl
            cases hr : Lx.run f (p + len) ((c :: r).drop len) with
            | bad q' =>
              rw [hr] at h
              simp only [Lx.Out.pre, Lx.Out.bad.injEq] at h
              have := ih _ _ _ (by rw [List.length_drop, List.length_cons]; omega) hr
              rw [List.length_drop, List.length_cons] at this; omega
            | good ts => rw [hr] at h; cases h

theorem toks_bad_le (l : List UInt8) (q : Nat) (h : Lx.toks l = .bad q) : q ≤ l.length := by
  unfold Lx.toks at h
  split at h
  · simp only [Lx.Out.bad.injEq] at h; omega
  · have := run_bad _ _ _ _ (by omega) h; omega

set_option maxRecDepth 100000 in
set_option maxHeartbeats 2000000 in
theorem tells_bad_own (v : Value) (raw S1 S2 : ByteArray) (q : Nat) (w : World) (hT : ∀ W, Kept w W → Calls Tryd.prog 13 #[v, .string raw] W fun e w' => e = .returned (.string S1) ∧ Kept W w') (hT2 : ∀ W, Kept w W → Calls Tryd.prog 13 #[v, .string ⟨#[]⟩] W fun e w' => e = .returned (.string S2) ∧ Kept W w') (hE : Er w) (hraw : raw.size ≤ 1125899906842624) (hS : S1.size ≤ 1125899906842624) (hS2 : S2.size ≤ 1125899906842624) (hR : Lx.toks S1.data.toList = .bad q) :
    Calls Tryd.prog 4 #[v, .string raw, .bool false] w fun e w' => e = .returned (.bool true) ∧ Kept w w' := by
  have C1 : Hid (∀ W, Kept w W → _) := hT
  have C2 : Hid (∀ W, Kept w W → _) := hT2
  have D1 : Hid (∀ W, Er W → _) := fun W hW => tokens_any S1 W (by omega) hW _ hR
  have D2 : Hid (∀ W, _) := fun W => rtokens_any S1 W (by omega) _ hR
  have hq := toks_bad_le _ _ hR
  rw [show S1.data.toList.length = S1.size by simp] at hq
  have P1 : Hid (∀ w, _) := place_in S1 q (by omega) hq
  have hne : ∀ w, _ := fun w => run_place_ne (P := Tryd.prog) S1 q q (by omega) hq hq w
  rw [decide_eq_true rfl] at hne
  obtain ⟨b1, hb1⟩ : ∃ b, kw raw = b := ⟨_, rfl⟩
  obtain ⟨b2, hb2⟩ : ∃ b, nm raw = b := ⟨_, rfl⟩
  obtain ⟨b3, hb3⟩ : ∃ b, nm S2 = b := ⟨_, rfl⟩
  have KW : Hid (∀ w, _) := keyword_any raw b1 hb1
  have KR : Hid (∀ w, _) := refKeyword_any raw b1 hb1
  have NM : Hid (∀ w, _) := isName_any raw b2 hb2
  have NR : Hid (∀ w, _) := refIsName_any raw b2 hraw hb2
  have N2 : Hid (∀ w, _) := isName_any S2 b3 hb3
  have R2 : Hid (∀ w, _) := refIsName_any S2 b3 hS2 hb3
  have HE : Hid (Er w) := hE
  clear hT hT2 hE hR hb1 hb2 hb3
  go_enter Tryd.func4, Tryd.ntmps4
  go_wp2_with fail
  refine (C1.out _ (Kept.refl _)).mono ?_
  rintro e w1 ⟨rfl, k1⟩
  have K1 : Hid (Kept w w1) := k1
  clear k1
  go_wp2_with fail
  refine (D1.out _ (HE.out.kept K1.out)).mono ?_
  rintro e w2 ⟨q1, q2, q3, rfl, ht⟩
  have K2 : Hid (Kept w w2) := K1.out.then (told_kept ht)
  obtain ⟨rfl, rfl, rfl, _⟩ := told_none ht
  clear ht
  go_wp2_with fail
  refine (D2.out _).mono ?_
  rintro e w3 ⟨q1, q2, q3, rfl, ht⟩
  obtain ⟨rfl, rfl, rfl, k3⟩ := ht
  have K3 : Hid (Kept w w3) := K2.out.then k3
  clear k3
  go_wp2_with fail
  refine (P1.out _).mono ?_
  rintro e w4 ⟨rfl, rfl⟩
  go_wp2_with fail
  go_loopw [63] (fun i wr => i = .int .i64 0 ∧ wr = w4) (fun _ _ => 0)
  case atStart => exact ⟨rfl, rfl⟩
  case round =>
    obtain ⟨rfl, rfl⟩ := hrel
    have K4 : Hid (Kept w wr) := K3
    go_wp2_with fail
    refine (known_any _ (HE.out.kept K4.out)).mono ?_
    rintro e w5 ⟨rfl, k5⟩
    have K5 : Hid (Kept w w5) := K4.out.then k5
    clear k5
    go_wp2_with fail
    refine (KW.out _).mono ?_
    rintro e w6 ⟨rfl, rfl⟩
    go_wp2_with fail
    refine (KR.out _).mono ?_
    rintro e w6 ⟨rfl, rfl⟩
    go_wp2_with fail
    refine (NM.out _).mono ?_
    rintro e w6 ⟨rfl, rfl⟩
    go_wp2_with fail
    refine (NR.out _).mono ?_
    rintro e w6 ⟨rfl, rfl⟩
    go_wp2_with fail
    refine (C2.out _ K5.out).mono ?_
    rintro e w6 ⟨rfl, k6⟩
    have K6 : Hid (Kept w w6) := K5.out.then k6
    clear k6
    go_wp2_with fail
    refine (N2.out _).mono ?_
    rintro e w7 ⟨rfl, rfl⟩
    go_wp2_with fail
    refine (C2.out _ K6.out).mono ?_
    rintro e w7 ⟨rfl, k7⟩
    have K7 : Hid (Kept w w7) := K6.out.then k7
    clear k7
    go_wp2_with fail
    refine (R2.out _).mono ?_
    rintro e w8 ⟨rfl, rfl⟩
    go_wp2
    go_ret
    exact ⟨rfl, K7.out⟩

set_option maxRecDepth 100000 in
set_option maxHeartbeats 2000000 in
theorem tells_bad_any (v : Value) (raw S1 S2 : ByteArray) (q : Nat) (w : World) (hT : ∀ W, Kept w W → Calls Tryd.prog 13 #[v, .string raw] W fun e w' => e = .returned (.string S1) ∧ Kept W w') (hT2 : ∀ W, Kept w W → Calls Tryd.prog 13 #[v, .string ⟨#[]⟩] W fun e w' => e = .returned (.string S2) ∧ Kept W w') (hE : Er w) (hraw : raw.size ≤ 1125899906842624) (_hS : S1.size ≤ 1125899906842624) (hS2 : S2.size ≤ 1125899906842624) (hR : Lx.toks raw.data.toList = .bad q) :
    Calls Tryd.prog 4 #[v, .string raw, .bool true] w fun e w' => e = .returned (.bool true) ∧ Kept w w' := by
  have C1 : Hid (∀ W, Kept w W → _) := hT
  have C2 : Hid (∀ W, Kept w W → _) := hT2
  have D1 : Hid (∀ W, Er W → _) := fun W hW => tokens_any raw W (by omega) hW _ hR
  have D2 : Hid (∀ W, _) := fun W => rtokens_any raw W (by omega) _ hR
  have hq := toks_bad_le _ _ hR
  rw [show raw.data.toList.length = raw.size by simp] at hq
  have P1 : Hid (∀ w, _) := place_in raw q (by omega) hq
  have hne : ∀ w, _ := fun w => run_place_ne (P := Tryd.prog) raw q q (by omega) hq hq w
  rw [decide_eq_true rfl] at hne
  obtain ⟨b1, hb1⟩ : ∃ b, kw raw = b := ⟨_, rfl⟩
  obtain ⟨b2, hb2⟩ : ∃ b, nm raw = b := ⟨_, rfl⟩
  obtain ⟨b3, hb3⟩ : ∃ b, nm S2 = b := ⟨_, rfl⟩
  have KW : Hid (∀ w, _) := keyword_any raw b1 hb1
  have KR : Hid (∀ w, _) := refKeyword_any raw b1 hb1
  have NM : Hid (∀ w, _) := isName_any raw b2 hb2
  have NR : Hid (∀ w, _) := refIsName_any raw b2 hraw hb2
  have N2 : Hid (∀ w, _) := isName_any S2 b3 hb3
  have R2 : Hid (∀ w, _) := refIsName_any S2 b3 hS2 hb3
  have HE : Hid (Er w) := hE
  clear hT hT2 hE hR hb1 hb2 hb3
  go_enter Tryd.func4, Tryd.ntmps4
  go_wp2_with fail
  refine (C1.out _ (Kept.refl _)).mono ?_
  rintro e w1 ⟨rfl, k1⟩
  have K1 : Hid (Kept w w1) := k1
  clear k1
  go_wp2_with fail
  refine (D1.out _ (HE.out.kept K1.out)).mono ?_
  rintro e w2 ⟨q1, q2, q3, rfl, ht⟩
  have K2 : Hid (Kept w w2) := K1.out.then (told_kept ht)
  obtain ⟨rfl, rfl, rfl, _⟩ := told_none ht
  clear ht
  go_wp2_with fail
  refine (D2.out _).mono ?_
  rintro e w3 ⟨q1, q2, q3, rfl, ht⟩
  obtain ⟨rfl, rfl, rfl, k3⟩ := ht
  have K3 : Hid (Kept w w3) := K2.out.then k3
  clear k3
  go_wp2_with fail
  refine (P1.out _).mono ?_
  rintro e w4 ⟨rfl, rfl⟩
  go_wp2_with fail
  go_loopw [63] (fun i wr => i = .int .i64 0 ∧ wr = w4) (fun _ _ => 0)
  case atStart => exact ⟨rfl, rfl⟩
  case round =>
    obtain ⟨rfl, rfl⟩ := hrel
    have K4 : Hid (Kept w wr) := K3
    go_wp2_with fail
    refine (known_any _ (HE.out.kept K4.out)).mono ?_
    rintro e w5 ⟨rfl, k5⟩
    have K5 : Hid (Kept w w5) := K4.out.then k5
    clear k5
    go_wp2_with fail
    refine (KW.out _).mono ?_
    rintro e w6 ⟨rfl, rfl⟩
    go_wp2_with fail
    refine (KR.out _).mono ?_
    rintro e w6 ⟨rfl, rfl⟩
    go_wp2_with fail
    refine (NM.out _).mono ?_
    rintro e w6 ⟨rfl, rfl⟩
    go_wp2_with fail
    refine (NR.out _).mono ?_
    rintro e w6 ⟨rfl, rfl⟩
    go_wp2_with fail
    refine (C2.out _ K5.out).mono ?_
    rintro e w6 ⟨rfl, k6⟩
    have K6 : Hid (Kept w w6) := K5.out.then k6
    clear k6
    go_wp2_with fail
    refine (N2.out _).mono ?_
    rintro e w7 ⟨rfl, rfl⟩
    go_wp2_with fail
    refine (C2.out _ K6.out).mono ?_
    rintro e w7 ⟨rfl, k7⟩
    have K7 : Hid (Kept w w7) := K6.out.then k7
    clear k7
    go_wp2_with fail
    refine (R2.out _).mono ?_
    rintro e w8 ⟨rfl, rfl⟩
    go_wp2
    go_ret
    exact ⟨rfl, K7.out⟩

end Go.Proofs.YtfjeijjllgocdaaDoor
