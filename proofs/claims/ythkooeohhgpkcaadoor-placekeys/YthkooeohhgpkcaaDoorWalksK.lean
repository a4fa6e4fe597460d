/- PlaceKeys answers true at every text, at whatever memory in which the table of powers of ten lies as the program's text lays it. -/
import Derived.Test.YthkooeohhgpkcaaDoorWalksH
import Derived.Maps.Range
namespace Go.Proofs.YthkooeohhgpkcaaDoor
open Go.RowKit
open Go.ChangeMaps (setBlock)

theorem print_words (s : ByteArray) (k : Nat) (hs : s.size ≤ 2147483000) (hk : k ≤ s.size) (w : World) (ht : Tab w) :
    Calls Tryd.prog 12 #[.complex .f64 (lineW s k) (colW s k)] w fun e w' => e = .returned (.string (shownAt s k)) ∧ Kept w w' := by
  have b := Sp.spot_le (s.data.toList.take k)
  have b2 : (s.data.toList.take k).length ≤ k := List.length_take_le _ _
  exact print_rung _ _ (by omega) (by omega) w ht

theorem bytes_ne {a b : ByteArray} (h : a ≠ b) : (a == b) = false := by
  cases hc : (a == b)
  · rfl
  · exfalso
    apply h
    have h2 : (a.data == b.data) = true := hc
    exact ByteArray.ext (eq_of_beq h2)

theorem new_block (w : World) (o : Obj) : (w.alloc o).heap[w.heap.size]? = some o := by
  show (w.heap.push o)[w.heap.size]? = _
  simp

set_option maxHeartbeats 1000000 in
theorem keys_walk (s t : ByteArray) (w : World) (hT : Tab w) (hn : t.size ≤ 120)
    (fw : ∀ w, Calls Tryd.prog 17 #[.string s, .int .i64 120] w fun e w' => e = .returned (.string t) ∧ w' = w) :
    Calls Tryd.prog 7 #[.string s] w fun e w' => e = .returned (.bool true) ∧ Kept w w' := by
  have HT : Hid (Tab w) := hT
  have FW : Hid (∀ w, _) := fw
  clear hT fw
  have hmm := @run_makeMap Tryd.prog
  go_enter Tryd.func7, Tryd.ntmps7
  go_wp2_with (go_at_call 17; refine (FW.out _).mono ?_; rintro e w0 ⟨rfl, hw⟩; obtain rfl : w = w0 := hw.symm)
  go_loopw [5] (fun i wr => ∃ k : Nat, k ≤ t.size + 1 ∧ i = .int .i64 k ∧ wr.heap[w.heap.size]? = some (.map (placesTo t k) k) ∧ wr.heap[w.heap.size + 1]? = some (.map (textsTo t k) k) ∧ Kept w wr) (fun i _ => t.size + 1 - (intOf i).toNat)
  case atStart => exact ⟨0, Nat.zero_le _, rfl, (Below.heap_alloc _ _ _ (by simp)).trans (new_block w _), (by have h := new_block (w.alloc (.map #[] 0)) (.map #[] 0); simpa [textsTo] using h), ((Kept.refl w).alloc (Nat.le_refl _) _).alloc (by simp) _⟩
  case round =>
    obtain ⟨k, hk, rfl, h1, h2, hq⟩ := hrel
    by_cases hlt : k ≤ t.size
    · have hlt2 : (k : Int) ≤ (t.size : Int) := by omega
      have OF : Hid (∀ w, _) := of_in t k (by omega) hlt
      have u1 := put_place wr w.heap.size (placesTo t k) k (lineW t k) (colW t k) (.int .i64 (k : Int)) h1 (fun e he => by
        obtain ⟨i, hi, rfl⟩ := places_mem t k e he
        exact ⟨_, _, rfl, by rw [same_words t k i (by omega) hlt (by omega)]; exact decide_eq_false (by omega)⟩)
      rw [← places_succ] at u1
      have a1 : (setBlock wr w.heap.size (.map (placesTo t (k + 1)) (k + 1))).heap[w.heap.size]? = some (.map (placesTo t (k + 1)) (k + 1)) := set_same h1 _
      have a2 : (setBlock wr w.heap.size (.map (placesTo t (k + 1)) (k + 1))).heap[w.heap.size + 1]? = some (.map (textsTo t k) k) := (set_other _ (by omega)).trans h2
      have a3 : Kept w (setBlock wr w.heap.size (.map (placesTo t (k + 1)) (k + 1))) := below_setBlock hq (Nat.le_refl _) _
      have A1 : Hid (_ = _) := a1
      have A2 : Hid (_ = _) := a2
      have A3 : Hid (Kept w _) := a3
      have HQ : Hid (Kept w wr) := hq
      have PR : Hid (∀ w, Tab w → _) := print_words t k (by omega) hlt
      clear a1 a2 a3 hq h1 h2
      generalize setBlock wr w.heap.size (.map (placesTo t (k + 1)) (k + 1)) = w2 at *
      go_wp2_with fail
      refine (OF.out _).mono ?_
      rintro e w0 ⟨rfl, hw⟩
      obtain rfl : wr = w0 := hw.symm
      go_wp2_with fail
      refine (PR.out _ (HT.out.kept A3.out)).mono ?_
      rintro e w3 ⟨rfl, q3⟩
      have lt2 : w.heap.size + 1 < w2.heap.size := by
        have := A2.out
        obtain ⟨h, _⟩ := Array.getElem?_eq_some_iff.1 this
        exact h
      have c1 : w3.heap[w.heap.size]? = some (.map (placesTo t (k + 1)) (k + 1)) := (q3.block _ (by omega)).trans A1.out
      have c2 : w3.heap[w.heap.size + 1]? = some (.map (textsTo t k) k) := (q3.block _ (by omega)).trans A2.out
      have u2 := put_text w3 (w.heap.size + 1) (textsTo t k) k (shownAt t k) (.bool true) c2 (fun e he => by
        obtain ⟨i, hi, rfl⟩ := texts_mem t k e he
        refine ⟨_, rfl, ?_⟩
        have hne : shownAt t k ≠ shownAt t i := fun h => by
          have := shown_inj t k i hlt (by omega) h
          omega
        exact bytes_ne hne)
      rw [← texts_succ] at u2
      have b1 : (setBlock w3 (w.heap.size + 1) (.map (textsTo t (k + 1)) (k + 1))).heap[w.heap.size]? = some (.map (placesTo t (k + 1)) (k + 1)) := (set_other _ (by omega)).trans c1
      have b2 : (setBlock w3 (w.heap.size + 1) (.map (textsTo t (k + 1)) (k + 1))).heap[w.heap.size + 1]? = some (.map (textsTo t (k + 1)) (k + 1)) := set_same c2 _
      have b3 : Kept w (setBlock w3 (w.heap.size + 1) (.map (textsTo t (k + 1)) (k + 1))) := below_setBlock (A3.out.then q3) (by omega) _
      have B1 : Hid (_ = _) := b1
      have B2 : Hid (_ = _) := b2
      have B3 : Hid (Kept w _) := b3
      clear b1 b2 b3 c1 c2 q3 lt2
      generalize setBlock w3 (w.heap.size + 1) (.map (textsTo t (k + 1)) (k + 1)) = w4 at *
      go_wp2
      go_roundw
      case rel => exact ⟨k + 1, by omega, by go_num, B1.out, B2.out, B3.out⟩
      case measure => simp [intOf]; omega
    · have hks : k = t.size + 1 := by omega
      have hge : decide ((k : Int) ≤ (t.size : Int)) = false := decide_eq_false (by omega)
      have hge2 : decide (k ≤ t.size) = false := decide_eq_false (by omega)
      have hgt : (t.size : Int) < (k : Int) := by omega
      have hle : ((k : Int) == (t.size : Int) + 1) = true := by rw [beq_iff_eq]; omega
      have HK : Hid (k = t.size + 1) := hks
      clear hks hk hlt
      have u1 := range_map wr w.heap.size _ _ h1
      have i1 : (wr.alloc (.mapIter (some w.heap.size) k #[] k)).heap[wr.heap.size]? = some (.mapIter (some w.heap.size) k #[] k) := new_block _ _
      have l1 : w.heap.size + 1 < wr.heap.size := by
        obtain ⟨h, _⟩ := Array.getElem?_eq_some_iff.1 h2
        exact h
      have j1 : (wr.alloc (.mapIter (some w.heap.size) k #[] k)).heap[w.heap.size]? = some (.map (placesTo t k) k) := (Below.heap_alloc _ _ _ (by omega)).trans h1
      have j2 : (wr.alloc (.mapIter (some w.heap.size) k #[] k)).heap[w.heap.size + 1]? = some (.map (textsTo t k) k) := (Below.heap_alloc _ _ _ (by omega)).trans h2
      have j3 : Kept w (wr.alloc (.mapIter (some w.heap.size) k #[] k)) := Below.alloc hq hq.size _
      have I1 : Hid (_ = _) := i1
      have J1 : Hid (_ = _) := j1
      have J2 : Hid (_ = _) := j2
      have J3 : Hid (Kept w _) := j3
      have L1 : Hid (w.heap.size + 1 < wr.heap.size) := l1
      clear i1 j1 j2 j3 h1 h2 hq l1
      generalize wr.alloc (.mapIter (some w.heap.size) k #[] k) = w5 at *
      generalize wr.heap.size = r at *
      go_wp2_with fail
      go_loopw [7] (fun _ wx => ∃ seen, wx.heap[r]? = some (.mapIter (some w.heap.size) k seen k) ∧ wx.heap[w.heap.size]? = some (.map (placesTo t k) k) ∧ wx.heap[w.heap.size + 1]? = some (.map (textsTo t k) k) ∧ Kept w wx) (fun _ wx => wx.rangeLeft w.heap.size r)
      case atStart => exact ⟨#[], I1.out, J1.out, J2.out, J3.out⟩
      case round =>
        obtain ⟨seen, k1, k2, k3, k4⟩ := hrel
        rcases run_next_at (P := Tryd.prog) wr 0 r w.heap.size k k seen (placesTo t k) k k1 k2 (fun x hx => by
          obtain ⟨i, hi, rfl⟩ := places_mem t _ x hx
          exact hi) (Nat.le_refl _) with ⟨h0, hx⟩ | ⟨e, he, w1, hw1, hx⟩
        · have K2 : Hid (_ = _) := k2
          have K3 : Hid (_ = _) := k3
          have K4 : Hid (Kept w _) := k4
          clear k1 k2 k3 k4 h0
          go_wp2_with fail
          refine (known_any _ (HT.out.kept K4.out)).mono ?_
          rintro e w6 ⟨rfl, q6⟩
          have l2 : w.heap.size + 1 < wr.heap.size := by
            obtain ⟨h, _⟩ := Array.getElem?_eq_some_iff.1 K3.out
            exact h
          have e1 := fun ty => len_map w6 38 ty 24 3 w.heap.size _ _ (by kernel_rfl) ((q6.block _ (by omega)).trans K2.out)
          have e2 := fun ty => len_map w6 39 ty 9 4 (w.heap.size + 1) _ _ (by kernel_rfl) ((q6.block _ (by omega)).trans K3.out)
          rw [places_size] at e1
          rw [texts_size] at e2
          have Q6 : Hid (Kept w w6) := K4.out.then q6
          clear q6 l2
          go_wp2
          go_ret
          exact ⟨rfl, Q6.out⟩
        · obtain ⟨hm, hs⟩ := mem_left he
          have hsh := left_shrinks _ _ _ he
          obtain ⟨i, hi, rfl⟩ := places_mem t _ e hm
          have l2 : w.heap.size + 1 < r := L1.out
          have f0 : w1.heap = wr.heap := by rcases hw1 with rfl | rfl <;> rfl
          have m1 : (setBlock w1 r (.mapIter (some w.heap.size) k (seen.push i) k)).heap[r]? = some (.mapIter (some w.heap.size) k (seen.push i) k) := set_same (by rw [f0]; exact k1) _
          have m2 : (setBlock w1 r (.mapIter (some w.heap.size) k (seen.push i) k)).heap[w.heap.size]? = some (.map (placesTo t k) k) := (set_other _ (by omega)).trans (by rw [f0]; exact k2)
          have m3 : (setBlock w1 r (.mapIter (some w.heap.size) k (seen.push i) k)).heap[w.heap.size + 1]? = some (.map (textsTo t k) k) := (set_other _ (by omega)).trans (by rw [f0]; exact k3)
          have m4 : Kept w (setBlock w1 r (.mapIter (some w.heap.size) k (seen.push i) k)) := below_setBlock (by rcases hw1 with rfl | rfl; exact k4; exact k4.drew) (by omega) _
          have hen := run_entry_at (P := Tryd.prog) _ r w.heap.size k seen (placesTo t k) k _ m1 m2 hm (places_born t _)
          have M1 : Hid (_ = _) := m1
          have M2 : Hid (_ = _) := m2
          have M3 : Hid (_ = _) := m3
          have M4 : Hid (Kept w _) := m4
          have K1 : Hid (_ = _) := k1
          have K2 : Hid (_ = _) := k2
          have SH : Hid (_ < _) := hsh
          clear m1 m2 m3 m4 k1 k2 k3 k4 he hm hs hsh hw1 f0 l2
          simp only at hx hen
          generalize setBlock w1 r (.mapIter (some w.heap.size) k (seen.push i) k) = w6 at *
          have BK : Hid (∀ w, _) := back_words t i (by omega) (by have := HK.out; omega)
          go_wp2_with (go_at_call 9; refine (BK.out _).mono ?_; rintro e w7 ⟨rfl, hw7⟩; obtain rfl : w6 = w7 := hw7.symm)
          go_roundw
          case rel => exact ⟨_, M1.out, M2.out, M3.out, M4.out⟩
          case measure =>
            unfold World.rangeLeft
            rw [M1.out, M2.out, K1.out, K2.out]
            exact SH.out

theorem placeKeys_any (s : ByteArray) (w : World) (hs : s.size ≤ 140737488355328) (hT : Tab w) : Calls Tryd.prog 7 #[.string s] w fun e w' => e = .returned (.bool true) ∧ Kept w w' :=
  keys_walk s (s.extract 0 120) w hT (by rw [ByteArray.size_extract]; omega) (fun w => few_any s 120 w (by omega) (by unfold maxLen; omega))

end Go.Proofs.YthkooeohhgpkcaaDoor
