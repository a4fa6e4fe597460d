/- LexPrefix answers true at whatever numbers and text, at whatever memory in which ErrRange holds an error. -/
import Derived.Test.YtfjeijjllgocdaaDoorPrefixB
namespace Go.Proofs.YtfjeijjllgocdaaDoor
open Go.RowKit
attribute [local go_sem] run_store_complex

/-- The tokens of two texts, and of both. -/
structure Both (S T : ByteArray) (ts us cs : List Lx.Tk) : Prop where
  len : cs.length = ts.length - 1 + us.length
  one : 1 ≤ ts.length
  low : ∀ k (h : k < cs.length) (h1 : k < ts.length - 1), cs[k] = ts[k]'(by omega)
  high : ∀ k (h : k < cs.length) (h1 : ts.length - 1 ≤ k), cs[k].kind = (us[k - (ts.length - 1)]'(by omega)).kind ∧ cs[k].text = (us[k - (ts.length - 1)]'(by omega)).text ∧ cs[k].n = (us[k - (ts.length - 1)]'(by omega)).n
  place : ∀ k (h : k < cs.length), k < ts.length - 1 → lineW (S ++ ⟨#[10]⟩ ++ T) cs[k].at' = lineW S cs[k].at' ∧ colW (S ++ ⟨#[10]⟩ ++ T) cs[k].at' = colW S cs[k].at' ∧ cs[k].at' ≤ S.size

theorem both_of (S T : ByteArray) (ts us : List Lx.Tk) (h1 : Lx.toks S.data.toList = .good ts) (h2 : Lx.toks T.data.toList = .good us) (hlen : S.size + T.size + 1 ≤ 6000) :
    ∃ cs, Lx.toks (S ++ ⟨#[10]⟩ ++ T).data.toList = .good cs ∧ Both S T ts us cs := by
  have l1 : S.data.toList.length = S.size := by simp
  have l2 : T.data.toList.length = T.size := by simp
  have e := Lx.toks_feed S.data.toList T.data.toList (by simp only [List.length_append, List.length_cons]; omega)
  rw [h1, h2] at e
  have hne := toks_ne _ _ h1
  have hpos : 1 ≤ ts.length := List.length_pos_iff.2 hne
  have hat := toks_at _ _ h1
  refine ⟨_, by rw [fed_bytes]; exact e, ?_⟩
  have hl : ts.dropLast.length = ts.length - 1 := List.length_dropLast
  have low : ∀ k (h : k < (ts.dropLast ++ us.map fun t : Lx.Tk => ({ t with at' := t.at' + (S.data.toList.length + 1) } : Lx.Tk)).length) (h1 : k < ts.length - 1), (ts.dropLast ++ us.map fun t : Lx.Tk => ({ t with at' := t.at' + (S.data.toList.length + 1) } : Lx.Tk))[k] = ts[k]'(by omega) := by
    intro k h h1
    rw [List.getElem_append_left (by omega), List.getElem_dropLast]
  refine ⟨by rw [List.length_append, List.length_map, hl], hpos, low, ?_, ?_⟩
  · intro k h h3
    rw [List.getElem_append_right (by omega), List.getElem_map]
    simp only [hl]
    exact ⟨trivial, trivial, trivial⟩
  · intro k h h3
    rw [low k h h3]
    have := hat (ts[k]'(by omega)) (List.getElem_mem _)
    have hf := fed_place S T (ts[k]'(by omega)).at' (by omega)
    exact ⟨hf.1, hf.2, by omega⟩

set_option maxRecDepth 100000 in
set_option maxHeartbeats 2000000 in
theorem prefix_good (v1 v2 : Value) (raw S T : ByteArray) (ts us cs : List Lx.Tk) (w : World) (hT : Two w v1 v2 raw S T) (hE : Er w) (hlen : S.size + T.size + 1 ≤ 6000) (hR1 : Lx.toks S.data.toList = .good ts) (hR2 : Lx.toks T.data.toList = .good us) (hR3 : Lx.toks (S ++ ⟨#[10]⟩ ++ T).data.toList = .good cs) (hB : Both S T ts us cs) (hb1 : ts.length ≤ 6001) (hb2 : us.length ≤ 6001) :
    Calls Tryd.prog 7 #[v1, v2, .string raw] w fun e w' => e = .returned (.bool true) ∧ Kept w w' := by
  have C1 : Hid (∀ W, Kept w W → _) := hT.t1
  have C2 : Hid (∀ W, Kept w W → _) := hT.t2
  have hsz : (S ++ ⟨#[10]⟩ ++ T).size = S.size + 1 + T.size := by rw [ByteArray.size_append, ByteArray.size_append]; rfl
  have D1 : Hid (∀ W, Er W → _) := fun W hW => tokens_any S W (by omega) hW _ hR1
  have D2 : Hid (∀ W, Er W → _) := fun W hW => tokens_any T W (by omega) hW _ hR2
  have D3 : Hid (∀ W, Er W → _) := fun W hW => tokens_any (S ++ ⟨#[10]⟩ ++ T) W (by omega) hW _ hR3
  have HE : Hid (Er w) := hE
  have HN1 : Hid (ts ≠ []) := toks_ne _ _ hR1
  have HN2 : Hid (us ≠ []) := toks_ne _ _ hR2
  have HN3 : Hid (cs ≠ []) := toks_ne _ _ hR3
  have hgt : decide ((6000 : Int) < (S.size : Int) + (T.size : Int) + 1) = false := decide_eq_false (by omega)
  have HB : Hid (Both S T ts us cs) := hB
  have hcl : cs.length = ts.length - 1 + us.length := hB.len
  have h1t : 1 ≤ ts.length := hB.one
  have hneq : ((cs.length : Int) == (ts.length : Int) + (us.length : Int) - 1) = true := by rw [beq_iff_eq]; omega
  have HC : Hid (cs.length = ts.length - 1 + us.length) := hcl
  have HS : Hid (S.size ≤ 6000) := by show S.size ≤ _; omega
  have hcs : cs.length ≤ 12001 := by omega
  clear hT hE hsz hR1 hR2 hR3 hB hcl
  go_enter Tryd.func7, Tryd.ntmps7
  go_wp2_with fail
  refine (C1.out _ (Kept.refl _)).mono ?_
  rintro e w1 ⟨rfl, k1⟩
  have K1 : Hid (Kept w w1) := k1
  clear k1
  go_wp2_with fail
  refine (C2.out _ K1.out).mono ?_
  rintro e w2 ⟨rfl, k2⟩
  have K2 : Hid (Kept w w2) := K1.out.then k2
  clear k2
  go_wp2_with fail
  refine (D1.out _ (HE.out.kept K2.out)).mono ?_
  rintro e w3 ⟨q1, q2, q3, rfl, ht⟩
  have K3 : Hid (Kept w w3) := K2.out.then (told_kept ht)
  obtain ⟨g1, cap1, rfl, rfl, rfl, _, x1, r1, _⟩ := told_good ht HN1.out
  have R1 : Hid (Row S ts g1 w3 ∧ g1 < w3.heap.size) := ⟨r1, x1⟩
  clear ht r1 x1
  go_wp2_with fail
  refine (D2.out _ (HE.out.kept K3.out)).mono ?_
  rintro e w4 ⟨q4, q5, q6, rfl, ht⟩
  have K34 : Hid (Kept w3 w4) := told_kept ht
  have K4 : Hid (Kept w w4) := K3.out.then K34.out
  obtain ⟨g2, cap2, rfl, rfl, rfl, _, x2, r2, _⟩ := told_good ht HN2.out
  have R2 : Hid (Row T us g2 w4 ∧ g2 < w4.heap.size) := ⟨r2, x2⟩
  clear ht r2 x2
  go_wp2_with fail
  refine (D3.out _ (HE.out.kept K4.out)).mono ?_
  rintro e w5 ⟨q7, q8, q9, rfl, ht⟩
  have K45 : Hid (Kept w4 w5) := told_kept ht
  have K5 : Hid (Kept w w5) := K4.out.then K45.out
  obtain ⟨g3, cap3, rfl, rfl, rfl, _, x3, r3, _⟩ := told_good ht HN3.out
  have R3 : Hid (Row (S ++ ⟨#[10]⟩ ++ T) cs g3 w5 ∧ g3 < w5.heap.size) := ⟨r3, x3⟩
  clear ht r3 x3
  go_wp2_with fail
  refine (known_any _ (HE.out.kept K5.out)).mono ?_
  rintro e w6 ⟨rfl, k6⟩
  have K56 : Hid (Kept w5 w6) := k6
  have K6 : Hid (Kept w w6) := K5.out.then k6
  clear k6
  go_wp2_with fail
  go_loopw [85] (fun i wr => ∃ k : Nat, k ≤ cs.length ∧ i = .int .i64 k ∧ Kept w5 wr) (fun i _ => cs.length - (intOf i).toNat)
  case atStart => exact ⟨0, Nat.zero_le _, rfl, K56.out⟩
  case round =>
    obtain ⟨k, hk, rfl, hkr⟩ := hrel
    have KR : Hid (Kept w5 wr) := hkr
    by_cases hlt : k < cs.length
    · have rc := R3.out.1.kept R3.out.2 KR.out
      have ra := R1.out.1.kept R1.out.2 (K34.out.then (K45.out.then KR.out))
      have rb := R2.out.1.kept R2.out.2 (K45.out.then KR.out)
      have y1 : g1 < wr.heap.size := Nat.lt_of_lt_of_le R1.out.2 (K34.out.then (K45.out.then KR.out)).size
      have y2 : g2 < wr.heap.size := Nat.lt_of_lt_of_le R2.out.2 (K45.out.then KR.out).size
      have y3 : g3 < wr.heap.size := Nat.lt_of_lt_of_le R3.out.2 KR.out.size
      obtain ⟨c0, c1, c2, c3⟩ := rc.at k hlt
      have hki : (k : Int) < (cs.length : Int) := by omega
      by_cases hlow : k < ts.length - 1
      · have hkt : k < ts.length := by omega
        obtain ⟨a0, a1, a2, a3⟩ := ra.at k hkt
        have hpl := HB.out.place k hlt hlow
        have heq := HB.out.low k hlt hlow
        rw [hpl.1, hpl.2.1] at c3
        rw [← heq] at a0 a1 a2 a3
        have hN : ∀ w, _ := run_tok_ne (cs[k].kind : Int) (cs[k].n : Int) ⟨cs[k].text.toArray⟩ (lineW S cs[k].at') (colW S cs[k].at') (ord_line S _ (by have := HS.out; omega) hpl.2.2) (ord_col S _ (by have := HS.out; omega) hpl.2.2)
        have hlowi : (k : Int) < (ts.length : Int) - 1 := by omega
        clear rc ra rb hpl heq hkr
        generalize (cs[k].kind : Int) = kd at *
        generalize (⟨cs[k].text.toArray⟩ : ByteArray) = tx at *
        generalize (cs[k].n : Int) = nn at *
        generalize lineW S cs[k].at' = px at *
        generalize colW S cs[k].at' = py at *
        go_wp2
        go_quiet (fail)
        go_wp2
        go_roundw
        case rel => exact ⟨k + 1, by omega, by go_num, ((KR.out.alloc (by have := KR.out.size; omega) _).trans ⟨rfl, rfl, rfl, Nat.le_refl _, fun _ _ => rfl⟩)⟩
        case measure => simp [intOf]; omega
      · obtain ⟨j, hj⟩ : ∃ j, j = k - (ts.length - 1) := ⟨_, rfl⟩
        have hju : j < us.length := by have := HC.out; omega
        obtain ⟨a0, a1, a2, a3⟩ := rb.at j hju
        have heq := HB.out.high k hlt (by omega)
        simp only [← hj] at heq
        rw [heq.1] at c0
        rw [heq.2.1] at c1
        rw [heq.2.2] at c2
        have hji : (k : Int) - (ts.length : Int) + 1 = (j : Int) := by omega
        have hjl : (j : Int) < (us.length : Int) := by omega
        have hlowi : decide ((k : Int) < (ts.length : Int) - 1) = false := decide_eq_false (by omega)
        clear rc ra rb heq hkr
        generalize (us[j].kind : Int) = kd at *
        generalize (⟨us[j].text.toArray⟩ : ByteArray) = tx at *
        generalize (us[j].n : Int) = nn at *
        generalize lineW (S ++ ⟨#[10]⟩ ++ T) cs[k].at' = px at *
        generalize colW (S ++ ⟨#[10]⟩ ++ T) cs[k].at' = py at *
        generalize lineW T us[j].at' = px2 at *
        generalize colW T us[j].at' = py2 at *
        clear hj
        go_wp2
        go_roundw
        case rel => exact ⟨k + 1, by omega, by go_num, (KR.out.alloc (by have := KR.out.size; omega) _).alloc (by have := KR.out.size; simp; omega) _⟩
        case measure => simp [intOf]; omega
    · go_wp2
      go_ret
      exact ⟨rfl, K5.out.then KR.out⟩

end Go.Proofs.YtfjeijjllgocdaaDoor
