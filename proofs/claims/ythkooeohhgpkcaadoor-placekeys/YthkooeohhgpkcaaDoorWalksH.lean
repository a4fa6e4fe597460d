/- PlaceKeys answers true at every text, at whatever memory in which the table of powers of ten lies as the program's text lays it. -/
import Derived.Test.YthkooeohhgpkcaaDoorWalksJ
namespace Go.Proofs.YthkooeohhgpkcaaDoor
open Go.RowKit
open Go.ChangeMaps (setBlock)

/-! Numbers and their digits. -/
def numOf (l : List UInt8) : Nat := l.foldl (fun a c => 10 * a + (c.toNat - 48)) 0

theorem num_dig (n : Nat) : numOf (Lib.decDigits n) = n := by
  induction n using Nat.strongRecOn with
  | _ n ih =>
    by_cases h : n < 10
    · rw [Lib.decDigits_one h]
      have : (UInt8.ofNat (48 + n)).toNat = 48 + n := by rw [UInt8.toNat_ofNat']; omega
      simp only [numOf, List.foldl_cons, List.foldl_nil, this]
      omega
    · rw [dig_step n h]
      have ih2 := ih (n / 10) (by omega)
      unfold numOf at ih2 ⊢
      rw [List.foldl_append, ih2]
      have : (UInt8.ofNat (48 + n % 10)).toNat = 48 + n % 10 := by rw [UInt8.toNat_ofNat']; omega
      simp only [List.foldl_cons, List.foldl_nil, this]
      omega

theorem dig_inj {a b : Nat} (h : Lib.decDigits a = Lib.decDigits b) : a = b := by
  have := congrArg numOf h
  rwa [num_dig, num_dig] at this

theorem dig_colon (n : Nat) : ∀ c ∈ Lib.decDigits n, c ≠ 58 := by
  induction n using Nat.strongRecOn with
  | _ n ih =>
    have one : ∀ d : Nat, d < 10 → UInt8.ofNat (48 + d) ≠ 58 := by
      intro d hd e
      have := congrArg UInt8.toNat e
      rw [UInt8.toNat_ofNat'] at this
      have h58 : (58 : UInt8).toNat = 58 := rfl
      omega
    by_cases h : n < 10
    · rw [Lib.decDigits_one h]
      intro c hc
      rw [List.mem_singleton.1 hc]
      exact one n h
    · rw [dig_step n h]
      intro c hc
      rcases List.mem_append.1 hc with hc | hc
      · exact ih (n / 10) (by omega) c hc
      · rw [List.mem_singleton.1 hc]; exact one _ (by omega)

theorem split_colon {x : UInt8} : ∀ {a b c d : List UInt8}, (∀ y ∈ a, y ≠ x) → (∀ y ∈ c, y ≠ x) → a ++ x :: b = c ++ x :: d → a = c ∧ b = d
  | [], b, [], d, _, _, h => by simp at h; exact ⟨rfl, h⟩
  | [], b, y :: c, d, _, hc, h => by
    simp at h
    exact absurd h.1.symm (hc y (by simp))
  | y :: a, b, [], d, ha, _, h => by
    simp at h
    exact absurd h.1 (ha y (by simp))
  | y :: a, b, z :: c, d, ha, hc, h => by
    simp at h
    obtain ⟨e1, e2⟩ := split_colon (fun w hw => ha w (by simp [hw])) (fun w hw => hc w (by simp [hw])) h.2
    exact ⟨by rw [h.1, e1], e2⟩

/-- The text of byte i's place. -/
def shownAt (s : ByteArray) (i : Nat) : ByteArray := dig (Sp.spot (s.data.toList.take i)).1 ++ ⟨#[58]⟩ ++ dig (Sp.spot (s.data.toList.take i)).2

theorem shown_inj (s : ByteArray) (i j : Nat) (hi : i ≤ s.size) (hj : j ≤ s.size) (h : shownAt s i = shownAt s j) : i = j := by
  have e : ∀ p : Nat × Nat, (dig p.1 ++ ⟨#[58]⟩ ++ dig p.2).data.toList = Lib.decDigits p.1 ++ 58 :: Lib.decDigits p.2 := by
    intro p
    rw [ByteArray.data_append, ByteArray.data_append, Array.toList_append, Array.toList_append]
    simp [dig]
  have h2 := congrArg (fun b : ByteArray => b.data.toList) h
  simp only [shownAt] at h2
  rw [e, e] at h2
  obtain ⟨e1, e2⟩ := split_colon (dig_colon _) (dig_colon _) h2
  exact (Sp.apart s.data.toList i j (by simpa using hi) (by simpa using hj)).1 (Prod.ext (dig_inj e1) (dig_inj e2))

/-! The two maps behind k rounds. -/
def placesTo (s : ByteArray) (k : Nat) : Array MapEntry := ((List.range k).map fun i => { key := .complex .f64 (lineW s i) (colW s i), val := .int .i64 (i : Int), born := i }).toArray
def textsTo (s : ByteArray) (k : Nat) : Array MapEntry := ((List.range k).map fun i => { key := .string (shownAt s i), val := .bool true, born := i }).toArray

theorem places_succ (s : ByteArray) (k : Nat) : placesTo s (k + 1) = (placesTo s k).push { key := .complex .f64 (lineW s k) (colW s k), val := .int .i64 (k : Int), born := k } := by
  simp [placesTo, List.range_succ]
theorem texts_succ (s : ByteArray) (k : Nat) : textsTo s (k + 1) = (textsTo s k).push { key := .string (shownAt s k), val := .bool true, born := k } := by
  simp [textsTo, List.range_succ]
theorem places_size (s : ByteArray) (k : Nat) : (placesTo s k).size = k := by simp [placesTo]
theorem texts_size (s : ByteArray) (k : Nat) : (textsTo s k).size = k := by simp [textsTo]
theorem places_mem (s : ByteArray) (k : Nat) (e : MapEntry) (h : e ∈ (placesTo s k).toList) : ∃ i, i < k ∧ e = { key := .complex .f64 (lineW s i) (colW s i), val := .int .i64 (i : Int), born := i } := by
  simp only [placesTo, List.mem_map, List.mem_range] at h
  obtain ⟨i, hi, rfl⟩ := h
  exact ⟨i, hi, rfl⟩
theorem texts_mem (s : ByteArray) (k : Nat) (e : MapEntry) (h : e ∈ (textsTo s k).toList) : ∃ i, i < k ∧ e = { key := .string (shownAt s i), val := .bool true, born := i } := by
  simp only [textsTo, List.mem_map, List.mem_range] at h
  obtain ⟨i, hi, rfl⟩ := h
  exact ⟨i, hi, rfl⟩
theorem places_born (s : ByteArray) (k : Nat) : ((placesTo s k).toList.map (·.born)).Nodup := by
  simp only [placesTo, List.map_map]
  have : ((fun x : MapEntry => x.born) ∘ fun i : Nat => ({ key := .complex .f64 (lineW s i) (colW s i), val := .int .i64 (i : Int), born := i } : MapEntry)) = id := rfl
  rw [this, List.map_id]
  exact List.nodup_range

theorem size_setBlock (w : World) (r : Nat) (o : Obj) : (setBlock w r o).heap.size = w.heap.size := by simp [setBlock]
theorem below_setBlock {B : Nat} {a w : World} (h : Below B a w) {r : Nat} (hr : B ≤ r) (o : Obj) : Below B a (setBlock w r o) :=
  h.trans ⟨rfl, rfl, rfl, by rw [size_setBlock]; exact Nat.le_refl _, fun k hk => by
    show (w.heap.setIfInBounds r o)[k]? = _
    rw [Array.getElem?_setIfInBounds]
    rw [if_neg (by omega)]⟩
theorem set_same {w : World} {r : Nat} {o' : Obj} (hb : w.heap[r]? = some o') (o : Obj) : (setBlock w r o).heap[r]? = some o := by
  obtain ⟨hlt, _⟩ := Array.getElem?_eq_some_iff.1 hb
  show (w.heap.setIfInBounds r o)[r]? = _
  rw [Array.getElem?_setIfInBounds, if_pos rfl, if_pos hlt]
theorem set_other {w : World} {r i : Nat} (o : Obj) (h : i ≠ r) : (setBlock w r o).heap[i]? = w.heap[i]? := by
  show (w.heap.setIfInBounds r o)[i]? = _
  rw [Array.getElem?_setIfInBounds, if_neg (by omega)]

end Go.Proofs.YthkooeohhgpkcaaDoor
