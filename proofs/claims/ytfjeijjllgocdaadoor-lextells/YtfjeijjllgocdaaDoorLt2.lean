/- The law of LexTells where the text is split, at whatever memory. -/
import Derived.Test.YtfjeijjllgocdaaDoorLt
import Derived.Test.YtfjeijjllgocdaaDoorCov
import Derived.Deep.QuietTactic
import Derived.BigQuiet
namespace Go.Proofs.YtfjeijjllgocdaaDoor
open Go.RowKit

/-- A list of reference tokens, cell by cell. -/
structure RRow (ts : List Lx.Tk) (g : Nat) (w : World) : Prop where
  cells : ∀ j, j < ts.length * 4 → w.cell? ⟨g, j, none⟩ = (rCellsOf ts)[j]?

theorem rtold_good {w0 w : World} {ts : List Lx.Tk} {v p e : Value} (h : RTold w0 (.good ts) v p e w) (hne : ts ≠ []) :
    ∃ g cap, v = .slice (some ⟨g, 0, none⟩) ts.length cap ∧ p = .int .i64 0 ∧ e = .int .i64 0 ∧ w0.heap.size ≤ g ∧ g < w.heap.size ∧ RRow ts g w ∧ Kept w0 w := by
  obtain ⟨rfl, rfl, ho, hb⟩ := h
  have hl : 0 < ts.length := List.length_pos_iff.2 hne
  obtain ⟨g, cap, rfl, h1, h2⟩ := ho.form hl
  exact ⟨g, cap, rfl, rfl, rfl, h1, h2, ⟨fun j hj => ho.cellAt j hj⟩, hb⟩

theorem RRow.kept {ts : List Lx.Tk} {g : Nat} {w w' : World} (h : RRow ts g w) (hg : g < w.heap.size) (hk : Kept w w') : RRow ts g w' :=
  ⟨fun j hj => (hk.cell (p := ⟨g, j, none⟩) hg).trans (h.cells j hj)⟩

theorem rtk_at (ts : List Lx.Tk) (i j : Nat) (hi : i < ts.length) (hj : j < 4) : (rCellsOf ts)[i * 4 + j]? = (rCells ts[i])[j]? := by
  induction ts generalizing i with
  | nil => simp at hi
  | cons t r ih =>
    have e : rCellsOf (t :: r) = rCells t ++ rCellsOf r := rfl
    rw [e]
    have hl : (rCells t).length = 4 := rfl
    cases i with
    | zero => rw [List.getElem?_append_left (by omega)]; simp
    | succ i =>
      rw [List.getElem?_append_right (by omega), hl, show (i + 1) * 4 + j - 4 = i * 4 + j by omega]
      exact ih i (by simpa using hi)

theorem RRow.at {ts : List Lx.Tk} {g : Nat} {w : World} (h : RRow ts g w) (i : Nat) (hi : i < ts.length) :
    w.cell? ⟨g, i * 4, none⟩ = some (.int .i64 (ts[i].kind : Int)) ∧ w.cell? ⟨g, i * 4 + 1, none⟩ = some (.string ⟨ts[i].text.toArray⟩) ∧ w.cell? ⟨g, i * 4 + 2, none⟩ = some (.int .i64 (ts[i].n : Int)) ∧ w.cell? ⟨g, i * 4 + 3, none⟩ = some (.int .i64 (ts[i].at' : Int)) := by
  refine ⟨?_, ?_, ?_, ?_⟩
  · have := rtk_at ts i 0 hi (by decide); rw [h.cells (i * 4) (by omega)]; exact this
  · have := rtk_at ts i 1 hi (by decide); rw [h.cells (i * 4 + 1) (by omega)]; exact this
  · have := rtk_at ts i 2 hi (by decide); rw [h.cells (i * 4 + 2) (by omega)]; exact this
  · have := rtk_at ts i 3 hi (by decide); rw [h.cells (i * 4 + 3) (by omega)]; exact this

set_option maxRecDepth 100000 in
set_option maxHeartbeats 2000000 in
theorem tells_good_own (v : Value) (raw S1 S2 : ByteArray) (ts : List Lx.Tk) (w : World) (hT : ∀ W, Kept w W → Calls Tryd.prog 13 #[v, .string raw] W fun e w' => e = .returned (.string S1) ∧ Kept W w') (hT2 : ∀ W, Kept w W → Calls Tryd.prog 13 #[v, .string ⟨#[]⟩] W fun e w' => e = .returned (.string S2) ∧ Kept W w') (hE : Er w) (hraw : raw.size ≤ 1125899906842624) (hS : S1.size ≤ 1125899906842624) (hS2 : S2.size ≤ 1125899906842624) (hR : Lx.toks S1.data.toList = .good ts) :
    Calls Tryd.prog 4 #[v, .string raw, .bool false] w fun e w' => e = .returned (.bool true) ∧ Kept w w' := by
  have C1 : Hid (∀ W, Kept w W → _) := hT
  have C2 : Hid (∀ W, Kept w W → _) := hT2
  have D1 : Hid (∀ W, Er W → _) := fun W hW => tokens_any S1 W (by omega) hW _ hR
  have D2 : Hid (∀ W, _) := fun W => rtokens_any S1 W (by omega) _ hR
  have hlen := toks_len _ _ hR
  rw [show S1.data.toList.length = S1.size by simp] at hlen
  have HAT : Hid (∀ t ∈ ts, t.at' ≤ S1.size) := fun t ht => by
    have h := hR
    unfold Lx.toks at h
    rw [if_neg (by simp; omega)] at h
    have := run_at _ _ _ _ h t ht
    simpa using this
  have hts := cov_count _ _ hR
  have hcov := Lx.toks_cov _ _ hR
  have HN : Hid (ts ≠ []) := hcov.ne
  clear hcov
  obtain ⟨b1, hb1⟩ : ∃ b, kw raw = b := ⟨_, rfl⟩
  obtain ⟨b2, hb2⟩ : ∃ b, nm raw = b := ⟨_, rfl⟩
  obtain ⟨b3, hb3⟩ : ∃ b, nm S2 = b := ⟨_, rfl⟩
  have KW : Hid (∀ w, _) := keyword_any raw b1 hb1
  have KR : Hid (∀ w, _) := refKeyword_any raw b1 hb1
  have NM : Hid (∀ w, _) := isName_any raw b2 hb2
  have NR : Hid (∀ w, _) := refIsName_any raw b2 hraw hb2
  have N2 : Hid (∀ w, _) := isName_any S2 b3 hb3
  have R2 : Hid (∀ w, _) := refIsName_any S2 b3 hS2 hb3
  have HE : Hid (Er w) := hE
  clear hT hT2 hE hR hb1 hb2 hb3
  go_enter Tryd.func4, Tryd.ntmps4
  go_wp2_with fail
  refine (C1.out _ (Kept.refl _)).mono ?_
  rintro e w1 ⟨rfl, k1⟩
  have K1 : Hid (Kept w w1) := k1
  clear k1
  go_wp2_with fail
  refine (D1.out _ (HE.out.kept K1.out)).mono ?_
  rintro e w2 ⟨q1, q2, q3, rfl, ht⟩
  have K2 : Hid (Kept w w2) := K1.out.then (told_kept ht)
  obtain ⟨g, cap, rfl, rfl, rfl, _, x1, r1, _⟩ := told_good ht HN.out
  have R1 : Hid (Row S1 ts g w2 ∧ g < w2.heap.size) := ⟨r1, x1⟩
  clear ht r1 x1
  go_wp2_with fail
  refine (D2.out _).mono ?_
  rintro e w3 ⟨q1, q2, q3, rfl, ht⟩
  obtain ⟨g2, cap2, rfl, rfl, rfl, _, x2, r2, k3⟩ := rtold_good ht HN.out
  have Q1 : Hid (RRow ts g2 w3 ∧ g2 < w3.heap.size) := ⟨r2, x2⟩
  have K3 : Hid (Kept w w3) := K2.out.then k3
  have R3 : Hid (Row S1 ts g w3 ∧ g < w3.heap.size) := ⟨R1.out.1.kept R1.out.2 k3, Nat.lt_of_lt_of_le R1.out.2 k3.size⟩
  clear ht r2 x2 k3
  go_wp2_with fail
  go_loopw [63] (fun i wr => ∃ k : Nat, k ≤ ts.length ∧ i = .int .i64 (k : Int) ∧ Hid (Kept w3 wr)) (fun i _ => ts.length - (intOf i).toNat)
  case atStart => exact ⟨0, Nat.zero_le _, rfl, Kept.refl _⟩
  case round =>
    obtain ⟨i, hi, rfl, KI⟩ := hrel
    by_cases hlt : i < ts.length
    · have hii : (i : Int) < (ts.length : Int) := by omega
      have y1 : g < wr.heap.size := Nat.lt_of_lt_of_le R3.out.2 KI.out.size
      have y2 : g2 < wr.heap.size := Nat.lt_of_lt_of_le Q1.out.2 KI.out.size
      obtain ⟨c0, c1, c2, c3⟩ := (R3.out.1.kept R3.out.2 KI.out).at i hlt
      obtain ⟨d0, d1, d2, d3⟩ := (Q1.out.1.kept Q1.out.2 KI.out).at i hlt
      have hat := HAT.out ts[i] (List.getElem_mem hlt)
      generalize ts[i].at' = q at *
      generalize (ts[i].kind : Int) = kd at *
      generalize (⟨ts[i].text.toArray⟩ : ByteArray) = tx at *
      generalize (ts[i].n : Int) = nn at *
      have PL : Hid (∀ w, _) := place_in S1 q (by omega) hat
      have hne : ∀ w, _ := fun w => run_place_ne (P := Tryd.prog) S1 q q (by omega) hat hat w
      rw [decide_eq_true rfl] at hne
      go_wp2_with fail
      go_quiet ((go_at_call 15; exact Calls.quiet_of_same (PL.out _)))
      go_wp2
      go_roundw
      case rel => exact ⟨i + 1, by omega, by go_num, KI.out.trans ⟨rfl, rfl, rfl, Nat.le_refl _, fun _ _ => rfl⟩⟩
      case measure => simp [intOf]; omega
    have hii : ¬ (i : Int) < (ts.length : Int) := by omega
    have K4 : Hid (Kept w wr) := K3.out.then KI.out
    go_wp2_with fail
    refine (known_any _ (HE.out.kept K4.out)).mono ?_
    rintro e w5 ⟨rfl, k5⟩
    have K5 : Hid (Kept w w5) := K4.out.then k5
    clear k5
    go_wp2_with fail
    refine (KW.out _).mono ?_
    rintro e w6 ⟨rfl, rfl⟩
    go_wp2_with fail
    refine (KR.out _).mono ?_
    rintro e w6 ⟨rfl, rfl⟩
    go_wp2_with fail
    refine (NM.out _).mono ?_
    rintro e w6 ⟨rfl, rfl⟩
    go_wp2_with fail
    refine (NR.out _).mono ?_
    rintro e w6 ⟨rfl, rfl⟩
    go_wp2_with fail
    refine (C2.out _ K5.out).mono ?_
    rintro e w6 ⟨rfl, k6⟩
    have K6 : Hid (Kept w w6) := K5.out.then k6
    clear k6
    go_wp2_with fail
    refine (N2.out _).mono ?_
    rintro e w7 ⟨rfl, rfl⟩
    go_wp2_with fail
    refine (C2.out _ K6.out).mono ?_
    rintro e w7 ⟨rfl, k7⟩
    have K7 : Hid (Kept w w7) := K6.out.then k7
    clear k7
    go_wp2_with fail
    refine (R2.out _).mono ?_
    rintro e w8 ⟨rfl, rfl⟩
    go_wp2
    go_ret
    exact ⟨rfl, K7.out⟩

set_option maxRecDepth 100000 in
set_option maxHeartbeats 2000000 in
theorem tells_good_any (v : Value) (raw S1 S2 : ByteArray) (ts : List Lx.Tk) (w : World) (hT : ∀ W, Kept w W → Calls Tryd.prog 13 #[v, .string raw] W fun e w' => e = .returned (.string S1) ∧ Kept W w') (hT2 : ∀ W, Kept w W → Calls Tryd.prog 13 #[v, .string ⟨#[]⟩] W fun e w' => e = .returned (.string S2) ∧ Kept W w') (hE : Er w) (hraw : raw.size ≤ 1125899906842624) (_hS : S1.size ≤ 1125899906842624) (hS2 : S2.size ≤ 1125899906842624) (hR : Lx.toks raw.data.toList = .good ts) :
    Calls Tryd.prog 4 #[v, .string raw, .bool true] w fun e w' => e = .returned (.bool true) ∧ Kept w w' := by
  have C1 : Hid (∀ W, Kept w W → _) := hT
  have C2 : Hid (∀ W, Kept w W → _) := hT2
  have D1 : Hid (∀ W, Er W → _) := fun W hW => tokens_any raw W (by omega) hW _ hR
  have D2 : Hid (∀ W, _) := fun W => rtokens_any raw W (by omega) _ hR
  have hlen := toks_len _ _ hR
  rw [show raw.data.toList.length = raw.size by simp] at hlen
  have HAT : Hid (∀ t ∈ ts, t.at' ≤ raw.size) := fun t ht => by
    have h := hR
    unfold Lx.toks at h
    rw [if_neg (by simp; omega)] at h
    have := run_at _ _ _ _ h t ht
    simpa using this
  have hts := cov_count _ _ hR
  have hcov := Lx.toks_cov _ _ hR
  have HN : Hid (ts ≠ []) := hcov.ne
  clear hcov
  obtain ⟨b1, hb1⟩ : ∃ b, kw raw = b := ⟨_, rfl⟩
  obtain ⟨b2, hb2⟩ : ∃ b, nm raw = b := ⟨_, rfl⟩
  obtain ⟨b3, hb3⟩ : ∃ b, nm S2 = b := ⟨_, rfl⟩
  have KW : Hid (∀ w, _) := keyword_any raw b1 hb1
  have KR : Hid (∀ w, _) := refKeyword_any raw b1 hb1
  have NM : Hid (∀ w, _) := isName_any raw b2 hb2
  have NR : Hid (∀ w, _) := refIsName_any raw b2 hraw hb2
  have N2 : Hid (∀ w, _) := isName_any S2 b3 hb3
  have R2 : Hid (∀ w, _) := refIsName_any S2 b3 hS2 hb3
  have HE : Hid (Er w) := hE
  clear hT hT2 hE hR hb1 hb2 hb3
  go_enter Tryd.func4, Tryd.ntmps4
  go_wp2_with fail
  refine (C1.out _ (Kept.refl _)).mono ?_
  rintro e w1 ⟨rfl, k1⟩
  have K1 : Hid (Kept w w1) := k1
  clear k1
  go_wp2_with fail
  refine (D1.out _ (HE.out.kept K1.out)).mono ?_
  rintro e w2 ⟨q1, q2, q3, rfl, ht⟩
  have K2 : Hid (Kept w w2) := K1.out.then (told_kept ht)
  obtain ⟨g, cap, rfl, rfl, rfl, _, x1, r1, _⟩ := told_good ht HN.out
  have R1 : Hid (Row raw ts g w2 ∧ g < w2.heap.size) := ⟨r1, x1⟩
  clear ht r1 x1
  go_wp2_with fail
  refine (D2.out _).mono ?_
  rintro e w3 ⟨q1, q2, q3, rfl, ht⟩
  obtain ⟨g2, cap2, rfl, rfl, rfl, _, x2, r2, k3⟩ := rtold_good ht HN.out
  have Q1 : Hid (RRow ts g2 w3 ∧ g2 < w3.heap.size) := ⟨r2, x2⟩
  have K3 : Hid (Kept w w3) := K2.out.then k3
  have R3 : Hid (Row raw ts g w3 ∧ g < w3.heap.size) := ⟨R1.out.1.kept R1.out.2 k3, Nat.lt_of_lt_of_le R1.out.2 k3.size⟩
  clear ht r2 x2 k3
  go_wp2_with fail
  go_loopw [63] (fun i wr => ∃ k : Nat, k ≤ ts.length ∧ i = .int .i64 (k : Int) ∧ Hid (Kept w3 wr)) (fun i _ => ts.length - (intOf i).toNat)
  case atStart => exact ⟨0, Nat.zero_le _, rfl, Kept.refl _⟩
  case round =>
    obtain ⟨i, hi, rfl, KI⟩ := hrel
    by_cases hlt : i < ts.length
    · have hii : (i : Int) < (ts.length : Int) := by omega
      have y1 : g < wr.heap.size := Nat.lt_of_lt_of_le R3.out.2 KI.out.size
      have y2 : g2 < wr.heap.size := Nat.lt_of_lt_of_le Q1.out.2 KI.out.size
      obtain ⟨c0, c1, c2, c3⟩ := (R3.out.1.kept R3.out.2 KI.out).at i hlt
      obtain ⟨d0, d1, d2, d3⟩ := (Q1.out.1.kept Q1.out.2 KI.out).at i hlt
      have hat := HAT.out ts[i] (List.getElem_mem hlt)
      generalize ts[i].at' = q at *
      generalize (ts[i].kind : Int) = kd at *
      generalize (⟨ts[i].text.toArray⟩ : ByteArray) = tx at *
      generalize (ts[i].n : Int) = nn at *
      have PL : Hid (∀ w, _) := place_in raw q (by omega) hat
      have hne : ∀ w, _ := fun w => run_place_ne (P := Tryd.prog) raw q q (by omega) hat hat w
      rw [decide_eq_true rfl] at hne
      go_wp2_with fail
      go_quiet ((go_at_call 15; exact Calls.quiet_of_same (PL.out _)))
      go_wp2
      go_roundw
      case rel => exact ⟨i + 1, by omega, by go_num, KI.out.trans ⟨rfl, rfl, rfl, Nat.le_refl _, fun _ _ => rfl⟩⟩
      case measure => simp [intOf]; omega
    have hii : ¬ (i : Int) < (ts.length : Int) := by omega
    have K4 : Hid (Kept w wr) := K3.out.then KI.out
    go_wp2_with fail
    refine (known_any _ (HE.out.kept K4.out)).mono ?_
    rintro e w5 ⟨rfl, k5⟩
    have K5 : Hid (Kept w w5) := K4.out.then k5
    clear k5
    go_wp2_with fail
    refine (KW.out _).mono ?_
    rintro e w6 ⟨rfl, rfl⟩
    go_wp2_with fail
    refine (KR.out _).mono ?_
    rintro e w6 ⟨rfl, rfl⟩
    go_wp2_with fail
    refine (NM.out _).mono ?_
    rintro e w6 ⟨rfl, rfl⟩
    go_wp2_with fail
    refine (NR.out _).mono ?_
    rintro e w6 ⟨rfl, rfl⟩
    go_wp2_with fail
    refine (C2.out _ K5.out).mono ?_
    rintro e w6 ⟨rfl, k6⟩
    have K6 : Hid (Kept w w6) := K5.out.then k6
    clear k6
    go_wp2_with fail
    refine (N2.out _).mono ?_
    rintro e w7 ⟨rfl, rfl⟩
    go_wp2_with fail
    refine (C2.out _ K6.out).mono ?_
    rintro e w7 ⟨rfl, k7⟩
    have K7 : Hid (Kept w w7) := K6.out.then k7
    clear k7
    go_wp2_with fail
    refine (R2.out _).mono ?_
    rintro e w8 ⟨rfl, rfl⟩
    go_wp2
    go_ret
    exact ⟨rfl, K7.out⟩

end Go.Proofs.YtfjeijjllgocdaaDoor
