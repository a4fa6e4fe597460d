/- What fresh answers: a new row with the same items, at each of its four types. -/
import Derived.Test.YtoaaikbplnpmmaaRows
import Derived.Test.YtoaaikbplnpmmaaAp
import Derived.WalkKit
import Derived.WalkSpells
import Derived.WalkLawsBesides
namespace Go.Proofs.Ytoaaikbplnpmmaa
open Go.RowKit

def rowCells (c : Nat → List Value) : Nat → List Value
  | 0 => []
  | n + 1 => rowCells c n ++ c n
theorem rowCells_len (c : Nat → List Value) (sz : Nat) : ∀ n, (∀ i, i < n → (c i).length = sz) → (rowCells c n).length = n * sz
  | 0, _ => by simp [rowCells]
  | n + 1, h => by
    rw [rowCells, List.length_append, rowCells_len c sz n (fun i hi => h i (by omega)), h n (by omega), Nat.add_mul, Nat.one_mul]
theorem rowCells_get (c : Nat → List Value) (sz : Nat) : ∀ n, (∀ i, i < n → (c i).length = sz) → ∀ i r, i < n → r < sz → (rowCells c n)[i * sz + r]? = (c i)[r]?
  | 0, _, _, _, h, _ => by omega
  | n + 1, h, i, r, hi, hr => by
    have hl := rowCells_len c sz n (fun i hi => h i (by omega))
    rw [rowCells]
    by_cases e : i < n
    · have : (i + 1) * sz ≤ n * sz := Nat.mul_le_mul_right _ e
      rw [Nat.add_mul] at this
      rw [List.getElem?_append_left (by omega)]
      exact rowCells_get c sz n (fun i hi => h i (by omega)) i r e hr
    · obtain rfl : i = n := by omega
      rw [List.getElem?_append_right (by omega)]
      congr 1; omega
theorem rowCells_mem (c : Nat → List Value) : ∀ n u, u ∈ rowCells c n → ∃ i, i < n ∧ u ∈ c i
  | 0, u, h => by simp [rowCells] at h
  | n + 1, u, h => by
    rw [rowCells, List.mem_append] at h
    rcases h with h | h
    · obtain ⟨i, hi, hu⟩ := rowCells_mem c n u h
      exact ⟨i, by omega, hu⟩
    · exact ⟨n, by omega, h⟩

theorem rowAt_src {w : World} {D : Nat → Prop} {A : Addr} {n sz : Nat} {c : Nat → List Value} (hsz : 0 < sz) (hr : RowAt w D (some A) n sz c) (hlen : ∀ i, i < n → (c i).length = sz) :
    ∀ j v, (rowCells c n)[j]? = some v → w.cell? (A.add j) = some v := by
  intro j v hv
  have hj : j < n * sz := by
    have := (List.getElem?_eq_some_iff.1 hv).1
    rwa [rowCells_len c sz n hlen] at this
  have hi : j / sz < n := Nat.div_lt_of_lt_mul (by rw [Nat.mul_comm]; exact hj)
  have hm : j % sz < sz := Nat.mod_lt _ hsz
  have he : j / sz * sz + j % sz = j := by rw [Nat.mul_comm]; exact Nat.div_add_mod j sz
  obtain ⟨b, o, ha, _, _, hrg⟩ := hr (j / sz) hi
  cases ha
  rw [← he, rowCells_get c sz n hlen _ _ hi hm] at hv
  have := hrg (j % sz) v hv
  rw [Addr.add_mid, ← he, ← Nat.add_assoc]
  exact this

theorem rowNow_of_block {w : World} {g n sz : Nat} {c : Nat → List Value} {t : TypeId} {tl : List Value} (hlen : ∀ i, i < n → (c i).length = sz) (hg : w.heap[g]? = some (.cells (rowCells c n ++ tl).toArray t (0, 0))) : RowNow w g n sz c := by
  refine ⟨fun j => frozen_of_row w g j _ t hg, fun i hi j v hv => ?_, hlen⟩
  have hj : j < sz := by
    have := (List.getElem?_eq_some_iff.1 hv).1
    rwa [hlen i hi] at this
  rw [cell_of_row w g _ _ t (0, 0) hg]
  have hl := rowCells_len c sz n hlen
  have : (i + 1) * sz ≤ n * sz := Nat.mul_le_mul_right _ hi
  rw [Nat.add_mul] at this
  rw [List.getElem?_toArray, List.getElem?_append_left (by omega), rowCells_get c sz n hlen i j hi hj]
  exact hv

theorem wpList_make_k {P : Program} (w : World) {ops : Array Oper} {rest : List Oper} {o : Oper} {a : Act} {Q : Exit → Act → World → Prop}
    (hg : o.guard = none) (l c : Operand) (t : TypeId) (hop : o.op = Op.makeSlice t l c) {e : TypeId} {z : Value} {size bytes : Nat} (E : ElemOf P t e z size bytes)
    (n : Nat) (hl : a.eval l = .int .i64 (n : Int)) (hc : a.eval c = .int .i64 (n : Int)) (b2 : bytes * n ≤ 281474976710656) (b3 : n ≤ 9223372036854775807)
    (hK : ∀ mc : Array Value, mc.size = n * size → wpList P ops Q rest (a.put o.dst (.slice (some ⟨w.heap.size, 0, none⟩) n n)) (w.alloc (.cells mc e))) :
    wpList P ops Q (o :: rest) a w := by
  refine wpList_plain hg fun K hK' => ?_
  obtain ⟨i, hi, hz, hs, hby⟩ := E.get
  have hb' : (i.bytes : Int) * (n : Int) ≤ 281474976710656 := by
    have h : ((i.bytes * n : Nat) : Int) ≤ 281474976710656 := by rw [hby]; omega
    rwa [Int.natCast_mul] at h
  have hrun := run_make (P := P) w t e i z E.under hi hz .i64 .i64 n n (by omega) (Int.le_refl _) hb' (by omega)
  rw [hs] at hrun
  simp only [Int.toNat_natCast] at hrun
  unfold Oper.wp
  simp [execOp, hop, hl, hc, hrun, Result.andThen]
  exact hK' _ _ (hK _ (size_madeCells _ _))

/-- What fresh leaves. -/
def Fresh (w : World) (a : Option Addr) (n sz : Nat) (c : Nat → List Value) (r : Ending) (w' : World) : Prop :=
  Kept w w' ∧ ((a = none ∧ n = 0 ∧ r = .returned (.slice none 0 0)) ∨ ∃ g, w.heap.size ≤ g ∧ g < w'.heap.size ∧ r = .returned (.slice (some ⟨g, 0, none⟩) n n) ∧ RowNow w' g n sz c)

theorem elemEx : ElemOf Try.prog 22 24 (.agg #[.int .i64 0, .int .i64 0, .string ⟨#[]⟩, .slice none 0 0]) 4 56 := ⟨Try.underlying22, by kernel_rfl, rfl, by decide⟩
theorem esizeEx : (Try.prog.info? 24).map (·.size) = some 4 := by kernel_rfl

set_option maxRecDepth 100000 in
set_option maxHeartbeats 400000 in
theorem freshEx (w : World) (D : Nat → Prop) (a : Option Addr) (n cap : Nat) (c : Nat → List Value) (hs : Slc a n cap) (hr : RowAt w D a n 4 c) (hlen : ∀ i, i < n → (c i).length = 4) (hone : ∀ i, i < n → ∀ u ∈ c i, u.oneCell' = true) (hD : ∀ k, D k → k < w.heap.size) (hn : n ≤ 1073741824) :
    Calls Try.prog 50 #[.slice a n cap] w fun r w' => Fresh w a n 4 c r w' := by
  cases a with
  | none =>
    have h0 : cap = 0 := hs.nil rfl
    obtain rfl : n = 0 := by have := hs.le; omega
    subst h0
    clear hs hr hlen hone
    have he : ∀ w : World, (binOp .eql 22 (.slice none 0 0) (.slice none 0 0)).run Try.prog w = .ok (.bool true) w := fun _ => rfl
    go_enter Try.func50, Try.ntmps50
    go_wp2_with fail
    go_ret
    exact ⟨Kept.refl _, .inl ⟨rfl, rfl, rfl⟩⟩
  | some A =>
    have H : Hid (RowAt w D (some A) n 4 c ∧ (∀ i, i < n → (c i).length = 4) ∧ (∀ i, i < n → ∀ u ∈ c i, u.oneCell' = true) ∧ ∀ k, D k → k < w.heap.size) := ⟨hr, hlen, hone, hD⟩
    clear hs hr hlen hone hD
    have he : ∀ w : World, (binOp .eql 22 (.slice (some A) n cap) (.slice none 0 0)).run Try.prog w = .ok (.bool false) w := fun _ => rfl
    go_enter Try.func50, Try.ntmps50
    go_wp2_with (at_make; refine wpList_make_k _ (by rfl) _ _ _ (by rfl) elemEx n (by rfl) (by rfl) (by omega) (by omega) ?_; intro mc hms; have HM : Hid _ := hms; clear hms)
    have c1 : ∀ j v, (rowCells c n)[j]? = some v → (w.alloc (.cells mc 24)).cell? (A.add j) = some v := by
      intro j v hv
      have h1 := rowAt_src (by decide) H.out.1 H.out.2.1 j v hv
      rw [World.cell?_of_block (w := w) (Below.heap_alloc w _ _ (World.block_lt_of_cell? w _ h1))]
      exact h1
    have c2 : (rowCells c n).length ≤ mc.size := by rw [HM.out, rowCells_len c 4 n H.out.2.1]; exact Nat.le_refl _
    have c3 : ∀ u ∈ rowCells c n, u.oneCell' = true := by
      intro u hu
      obtain ⟨i, hi, hu⟩ := rowCells_mem c n u hu
      exact H.out.2.2.1 i hi u hu
    have hcp := run_copy_k (P := Try.prog) (w.alloc (.cells mc 24)) 22 22 3 24 w.heap.size n n A cap mc 24 (rowCells c n) 4 Try.underlying22 esizeEx (heap_alloc_new w _) (rowCells_len c 4 n H.out.2.1) c1 c2 c3
    obtain ⟨W2, hW2⟩ : ∃ W2, (w.alloc (.cells mc 24)).setRow w.heap.size (rowCells c n ++ mc.toList.drop (rowCells c n).length).toArray = W2 := ⟨_, rfl⟩
    rw [hW2] at hcp
    have HW : Hid (Kept w W2 ∧ w.heap.size < W2.heap.size ∧ RowNow W2 w.heap.size n 4 c) := by
      rw [← hW2]
      exact ⟨(below_setRow ((Kept.refl w).al _) (Nat.le_refl _) _ : Below _ _ _), by simp, rowNow_of_block H.out.2.1 (setRow_heap _ _ _ _ _ _ (heap_alloc_new w _))⟩
    clear c1 c2 c3 hW2
    rw [hcp]
    go_wp2_with fail
    go_ret
    exact ⟨HW.out.1, .inr ⟨w.heap.size, Nat.le_refl _, HW.out.2.1, rfl, HW.out.2.2⟩⟩
theorem elemSt : ElemOf Try.prog 26 29 (.agg #[.int .i64 0, .string ⟨#[]⟩, .string ⟨#[]⟩, .int .i64 0, .int .i64 0, .int .i64 0, .string ⟨#[]⟩, .slice none 0 0, .slice none 0 0, .slice none 0 0, .complex .f64 0 0]) 11 168 := ⟨Try.underlying26, by kernel_rfl, rfl, by decide⟩
theorem esizeSt : (Try.prog.info? 29).map (·.size) = some 11 := by kernel_rfl

set_option maxRecDepth 100000 in
set_option maxHeartbeats 400000 in
theorem freshSt (w : World) (D : Nat → Prop) (a : Option Addr) (n cap : Nat) (c : Nat → List Value) (hs : Slc a n cap) (hr : RowAt w D a n 11 c) (hlen : ∀ i, i < n → (c i).length = 11) (hone : ∀ i, i < n → ∀ u ∈ c i, u.oneCell' = true) (hD : ∀ k, D k → k < w.heap.size) (hn : n ≤ 1073741824) :
    Calls Try.prog 43 #[.slice a n cap] w fun r w' => Fresh w a n 11 c r w' := by
  cases a with
  | none =>
    have h0 : cap = 0 := hs.nil rfl
    obtain rfl : n = 0 := by have := hs.le; omega
    subst h0
    clear hs hr hlen hone
    have he : ∀ w : World, (binOp .eql 26 (.slice none 0 0) (.slice none 0 0)).run Try.prog w = .ok (.bool true) w := fun _ => rfl
    go_enter Try.func43, Try.ntmps43
    go_wp2_with fail
    go_ret
    exact ⟨Kept.refl _, .inl ⟨rfl, rfl, rfl⟩⟩
  | some A =>
    have H : Hid (RowAt w D (some A) n 11 c ∧ (∀ i, i < n → (c i).length = 11) ∧ (∀ i, i < n → ∀ u ∈ c i, u.oneCell' = true) ∧ ∀ k, D k → k < w.heap.size) := ⟨hr, hlen, hone, hD⟩
    clear hs hr hlen hone hD
    have he : ∀ w : World, (binOp .eql 26 (.slice (some A) n cap) (.slice none 0 0)).run Try.prog w = .ok (.bool false) w := fun _ => rfl
    go_enter Try.func43, Try.ntmps43
    go_wp2_with (at_make; refine wpList_make_k _ (by rfl) _ _ _ (by rfl) elemSt n (by rfl) (by rfl) (by omega) (by omega) ?_; intro mc hms; have HM : Hid _ := hms; clear hms)
    have c1 : ∀ j v, (rowCells c n)[j]? = some v → (w.alloc (.cells mc 29)).cell? (A.add j) = some v := by
      intro j v hv
      have h1 := rowAt_src (by decide) H.out.1 H.out.2.1 j v hv
      rw [World.cell?_of_block (w := w) (Below.heap_alloc w _ _ (World.block_lt_of_cell? w _ h1))]
      exact h1
    have c2 : (rowCells c n).length ≤ mc.size := by rw [HM.out, rowCells_len c 11 n H.out.2.1]; exact Nat.le_refl _
    have c3 : ∀ u ∈ rowCells c n, u.oneCell' = true := by
      intro u hu
      obtain ⟨i, hi, hu⟩ := rowCells_mem c n u hu
      exact H.out.2.2.1 i hi u hu
    have hcp := run_copy_k (P := Try.prog) (w.alloc (.cells mc 29)) 26 26 3 29 w.heap.size n n A cap mc 29 (rowCells c n) 11 Try.underlying26 esizeSt (heap_alloc_new w _) (rowCells_len c 11 n H.out.2.1) c1 c2 c3
    obtain ⟨W2, hW2⟩ : ∃ W2, (w.alloc (.cells mc 29)).setRow w.heap.size (rowCells c n ++ mc.toList.drop (rowCells c n).length).toArray = W2 := ⟨_, rfl⟩
    rw [hW2] at hcp
    have HW : Hid (Kept w W2 ∧ w.heap.size < W2.heap.size ∧ RowNow W2 w.heap.size n 11 c) := by
      rw [← hW2]
      exact ⟨(below_setRow ((Kept.refl w).al _) (Nat.le_refl _) _ : Below _ _ _), by simp, rowNow_of_block H.out.2.1 (setRow_heap _ _ _ _ _ _ (heap_alloc_new w _))⟩
    clear c1 c2 c3 hW2
    rw [hcp]
    go_wp2_with fail
    go_ret
    exact ⟨HW.out.1, .inr ⟨w.heap.size, Nat.le_refl _, HW.out.2.1, rfl, HW.out.2.2⟩⟩
theorem elemTs : ElemOf Try.prog 30 26 (.slice none 0 0) 1 24 := ⟨Try.underlying30, by kernel_rfl, rfl, by decide⟩
theorem esizeTs : (Try.prog.info? 26).map (·.size) = some 1 := by kernel_rfl

set_option maxRecDepth 100000 in
set_option maxHeartbeats 400000 in
theorem freshTs (w : World) (D : Nat → Prop) (a : Option Addr) (n cap : Nat) (c : Nat → List Value) (hs : Slc a n cap) (hr : RowAt w D a n 1 c) (hlen : ∀ i, i < n → (c i).length = 1) (hone : ∀ i, i < n → ∀ u ∈ c i, u.oneCell' = true) (hD : ∀ k, D k → k < w.heap.size) (hn : n ≤ 1073741824) :
    Calls Try.prog 27 #[.slice a n cap] w fun r w' => Fresh w a n 1 c r w' := by
  cases a with
  | none =>
    have h0 : cap = 0 := hs.nil rfl
    obtain rfl : n = 0 := by have := hs.le; omega
    subst h0
    clear hs hr hlen hone
    have he : ∀ w : World, (binOp .eql 30 (.slice none 0 0) (.slice none 0 0)).run Try.prog w = .ok (.bool true) w := fun _ => rfl
    go_enter Try.func27, Try.ntmps27
    go_wp2_with fail
    go_ret
    exact ⟨Kept.refl _, .inl ⟨rfl, rfl, rfl⟩⟩
  | some A =>
    have H : Hid (RowAt w D (some A) n 1 c ∧ (∀ i, i < n → (c i).length = 1) ∧ (∀ i, i < n → ∀ u ∈ c i, u.oneCell' = true) ∧ ∀ k, D k → k < w.heap.size) := ⟨hr, hlen, hone, hD⟩
    clear hs hr hlen hone hD
    have he : ∀ w : World, (binOp .eql 30 (.slice (some A) n cap) (.slice none 0 0)).run Try.prog w = .ok (.bool false) w := fun _ => rfl
    go_enter Try.func27, Try.ntmps27
    go_wp2_with (at_make; refine wpList_make_k _ (by rfl) _ _ _ (by rfl) elemTs n (by rfl) (by rfl) (by omega) (by omega) ?_; intro mc hms; have HM : Hid _ := hms; clear hms)
    have c1 : ∀ j v, (rowCells c n)[j]? = some v → (w.alloc (.cells mc 26)).cell? (A.add j) = some v := by
      intro j v hv
      have h1 := rowAt_src (by decide) H.out.1 H.out.2.1 j v hv
      rw [World.cell?_of_block (w := w) (Below.heap_alloc w _ _ (World.block_lt_of_cell? w _ h1))]
      exact h1
    have c2 : (rowCells c n).length ≤ mc.size := by rw [HM.out, rowCells_len c 1 n H.out.2.1]; exact Nat.le_refl _
    have c3 : ∀ u ∈ rowCells c n, u.oneCell' = true := by
      intro u hu
      obtain ⟨i, hi, hu⟩ := rowCells_mem c n u hu
      exact H.out.2.2.1 i hi u hu
    have hcp := run_copy_k (P := Try.prog) (w.alloc (.cells mc 26)) 30 30 3 26 w.heap.size n n A cap mc 26 (rowCells c n) 1 Try.underlying30 esizeTs (heap_alloc_new w _) (rowCells_len c 1 n H.out.2.1) c1 c2 c3
    obtain ⟨W2, hW2⟩ : ∃ W2, (w.alloc (.cells mc 26)).setRow w.heap.size (rowCells c n ++ mc.toList.drop (rowCells c n).length).toArray = W2 := ⟨_, rfl⟩
    rw [hW2] at hcp
    have HW : Hid (Kept w W2 ∧ w.heap.size < W2.heap.size ∧ RowNow W2 w.heap.size n 1 c) := by
      rw [← hW2]
      exact ⟨(below_setRow ((Kept.refl w).al _) (Nat.le_refl _) _ : Below _ _ _), by simp, rowNow_of_block H.out.2.1 (setRow_heap _ _ _ _ _ _ (heap_alloc_new w _))⟩
    clear c1 c2 c3 hW2
    rw [hcp]
    go_wp2_with fail
    go_ret
    exact ⟨HW.out.1, .inr ⟨w.heap.size, Nat.le_refl _, HW.out.2.1, rfl, HW.out.2.2⟩⟩
theorem elemDc : ElemOf Try.prog 31 51 (.agg #[.int .i64 0, .string ⟨#[]⟩, .int .i64 0, .complex .f64 0 0]) 4 48 := ⟨Try.underlying31, by kernel_rfl, rfl, by decide⟩
theorem esizeDc : (Try.prog.info? 51).map (·.size) = some 4 := by kernel_rfl

set_option maxRecDepth 100000 in
set_option maxHeartbeats 400000 in
theorem freshDc (w : World) (D : Nat → Prop) (a : Option Addr) (n cap : Nat) (c : Nat → List Value) (hs : Slc a n cap) (hr : RowAt w D a n 4 c) (hlen : ∀ i, i < n → (c i).length = 4) (hone : ∀ i, i < n → ∀ u ∈ c i, u.oneCell' = true) (hD : ∀ k, D k → k < w.heap.size) (hn : n ≤ 1073741824) :
    Calls Try.prog 29 #[.slice a n cap] w fun r w' => Fresh w a n 4 c r w' := by
  cases a with
  | none =>
    have h0 : cap = 0 := hs.nil rfl
    obtain rfl : n = 0 := by have := hs.le; omega
    subst h0
    clear hs hr hlen hone
    have he : ∀ w : World, (binOp .eql 31 (.slice none 0 0) (.slice none 0 0)).run Try.prog w = .ok (.bool true) w := fun _ => rfl
    go_enter Try.func29, Try.ntmps29
    go_wp2_with fail
    go_ret
    exact ⟨Kept.refl _, .inl ⟨rfl, rfl, rfl⟩⟩
  | some A =>
    have H : Hid (RowAt w D (some A) n 4 c ∧ (∀ i, i < n → (c i).length = 4) ∧ (∀ i, i < n → ∀ u ∈ c i, u.oneCell' = true) ∧ ∀ k, D k → k < w.heap.size) := ⟨hr, hlen, hone, hD⟩
    clear hs hr hlen hone hD
    have he : ∀ w : World, (binOp .eql 31 (.slice (some A) n cap) (.slice none 0 0)).run Try.prog w = .ok (.bool false) w := fun _ => rfl
    go_enter Try.func29, Try.ntmps29
    go_wp2_with (at_make; refine wpList_make_k _ (by rfl) _ _ _ (by rfl) elemDc n (by rfl) (by rfl) (by omega) (by omega) ?_; intro mc hms; have HM : Hid _ := hms; clear hms)
    have c1 : ∀ j v, (rowCells c n)[j]? = some v → (w.alloc (.cells mc 51)).cell? (A.add j) = some v := by
      intro j v hv
      have h1 := rowAt_src (by decide) H.out.1 H.out.2.1 j v hv
      rw [World.cell?_of_block (w := w) (Below.heap_alloc w _ _ (World.block_lt_of_cell? w _ h1))]
      exact h1
    have c2 : (rowCells c n).length ≤ mc.size := by rw [HM.out, rowCells_len c 4 n H.out.2.1]; exact Nat.le_refl _
    have c3 : ∀ u ∈ rowCells c n, u.oneCell' = true := by
      intro u hu
      obtain ⟨i, hi, hu⟩ := rowCells_mem c n u hu
      exact H.out.2.2.1 i hi u hu
    have hcp := run_copy_k (P := Try.prog) (w.alloc (.cells mc 51)) 31 31 3 51 w.heap.size n n A cap mc 51 (rowCells c n) 4 Try.underlying31 esizeDc (heap_alloc_new w _) (rowCells_len c 4 n H.out.2.1) c1 c2 c3
    obtain ⟨W2, hW2⟩ : ∃ W2, (w.alloc (.cells mc 51)).setRow w.heap.size (rowCells c n ++ mc.toList.drop (rowCells c n).length).toArray = W2 := ⟨_, rfl⟩
    rw [hW2] at hcp
    have HW : Hid (Kept w W2 ∧ w.heap.size < W2.heap.size ∧ RowNow W2 w.heap.size n 4 c) := by
      rw [← hW2]
      exact ⟨(below_setRow ((Kept.refl w).al _) (Nat.le_refl _) _ : Below _ _ _), by simp, rowNow_of_block H.out.2.1 (setRow_heap _ _ _ _ _ _ (heap_alloc_new w _))⟩
    clear c1 c2 c3 hW2
    rw [hcp]
    go_wp2_with fail
    go_ret
    exact ⟨HW.out.1, .inr ⟨w.heap.size, Nat.le_refl _, HW.out.2.1, rfl, HW.out.2.2⟩⟩
#print axioms freshSt
end Go.Proofs.Ytoaaikbplnpmmaa
