/- A region that draws its order and makes memory, by what holds behind each of its operations: TreeKnown's second. -/
import Derived.Test.YtoaaikbplnpmmaaTp
import Derived.Deep.RegionHeld3
namespace Go.Proofs.Ytoaaikbplnpmmaa
open Go.RowKit

theorem mem_ready {md : Region.Mode} {ops : Array Oper} {listed : Array Bool} {i : Nat} (h : i ∈ Region.ready md ops listed) : ∃ o, ops[i]? = some o ∧ listed.getD i true = false ∧ ∀ e ∈ o.after, Region.binds md e = true → listed.getD e.on false = true := by
  unfold Region.ready at h
  rw [List.mem_filter, List.mem_range, Bool.and_eq_true] at h
  obtain ⟨h1, h2, h3⟩ := h
  have ho : ops[i]? = some ops[i] := Array.getElem?_eq_getElem h1
  rw [ho] at h3
  simp only [Option.map_some, Option.getD_some, Array.all_eq_true'] at h3
  refine ⟨ops[i], ho, by simpa using h2, fun e he hb => ?_⟩
  have := h3 e he
  rw [hb] at this
  simpa using this
theorem wpAny_inv {P : Program} {ops : Array Oper} {Q : Exit → Act → World → Prop} {md : Region.Mode} (J : Nat → Array Bool → Act → World → Prop)
    (h0 : ∀ listed a w, J 0 listed a w → Region.ready md ops listed = [])
    (hd : ∀ n listed a w, J n listed a w → Region.ready md ops listed = [] → Q .normal a w)
    (hs : ∀ n listed a w, J (n + 1) listed a w → ∀ i o, ops[i]? = some o → listed.getD i true = false → (∀ e ∈ o.after, Region.binds md e = true → listed.getD e.on false = true) →
      ∀ K : Act → World → Prop, Shut (∀ a' w', J n (listed.setIfInBounds i true) a' w' → K a' w') → if Region.wanted o (yielded ops a.tmps) = true then Oper.wp P o a w K Q else K (a.put o.dst undef) w) :
    ∀ n listed a w, J n listed a w → wpAny P md ops Q n listed a w
  | 0, _, _, _, h => ⟨h0 _ _ _ h, hd _ _ _ _ h (h0 _ _ _ h)⟩
  | n + 1, listed, a, w, h => ⟨hd _ _ _ _ h, fun i hi => by
      obtain ⟨o, ho, h1, h2⟩ := mem_ready hi
      exact wpOp_step ho fun K hK => hs n listed a w h i o ho h1 h2 K fun a' w' hj => hK a' w' (wpAny_inv J h0 hd hs n _ a' w' hj)⟩
theorem all_listed {md : Region.Mode} {ops : Array Oper} {L : Array Bool} (hr : Region.ready md ops L = []) (hs : L.size = ops.size) (hb : ((List.range ops.size).all fun i => (ops[i]?.map fun o => o.after.all fun e => decide (e.on < i)).getD true) = true) : ∀ i, i < ops.size → L.getD i false = true := by
  intro i
  induction i using Nat.strongRecOn with
  | _ i ih =>
    intro hi
    have hi2 : i < L.size := by rw [hs]; exact hi
    by_cases hl : L.getD i true = false
    · exfalso
      have hm : i ∈ Region.ready md ops L := by
        have h1 := List.all_eq_true.1 hb i (List.mem_range.2 hi)
        unfold Region.ready
        rw [List.mem_filter, List.mem_range, Bool.and_eq_true, hl]
        rw [Array.getElem?_eq_getElem hi] at h1 ⊢
        simp only [Option.map_some, Option.getD_some, Array.all_eq_true'] at h1 ⊢
        refine ⟨hi, rfl, fun e he => ?_⟩
        have h2 : e.on < i := by simpa using h1 e he
        rw [ih e.on h2 (by omega)]
        simp
      rw [hr] at hm
      cases hm
    · simpa [Array.getD, hi2] using hl
/-- At most n of N operations are left. -/
structure Left (N n : Nat) (L : Array Bool) : Prop where
  size : L.size = N
  cnt : L.toList.count false ≤ n
theorem Left.none {md : Region.Mode} {ops : Array Oper} {L : Array Bool} {N : Nat} (h : Left N 0 L) (hN : ops.size = N) : Region.ready md ops L = [] := by
  rw [List.eq_nil_iff_forall_not_mem]
  intro i hi
  obtain ⟨o, ho, h1, -⟩ := mem_ready hi
  have hlt : i < L.size := by rw [h.size, ← hN]; exact (Array.getElem?_eq_some_iff.1 ho).1
  have h2 : L[i] = false := by simpa [Array.getD, hlt] using h1
  have h3 : L.toList.count false = 0 := Nat.le_zero.1 h.cnt
  rw [List.count_eq_zero] at h3
  exact h3 (by rw [← h2]; exact Array.getElem_mem_toList hlt)
theorem getD_lt {L : Array Bool} {i : Nat} (h : L.getD i true = false) : i < L.size := by
  by_cases hlt : i < L.size
  · exact hlt
  · simp [Array.getD, hlt] at h
theorem Left.step {N n i : Nat} {L : Array Bool} (h : Left N (n + 1) L) (hl : L.getD i true = false) : Left N n (L.setIfInBounds i true) := by
  have hlt := getD_lt hl
  have h2 : L[i] = false := by simpa [Array.getD, hlt] using hl
  refine ⟨by simp [h.size], ?_⟩
  have hc := h.cnt
  rw [Array.toList_setIfInBounds, List.count_set (by simpa using hlt)]
  simp only [Array.count_toList] at hc
  simp [h2]
  omega
theorem getD_ne {L : Array Bool} {i k : Nat} (h : k ≠ i) : (L.setIfInBounds i true).getD k false = L.getD k false := by
  rw [Array.getD_eq_getD_getElem?, Array.getD_eq_getD_getElem?, Array.getElem?_setIfInBounds_ne (Ne.symm h)]
theorem getD_eq {L : Array Bool} {i : Nat} (h : L.getD i true = false) : (L.setIfInBounds i true).getD i false = true := by
  have hlt := getD_lt h
  simp [Array.getD, hlt]
theorem getD_false {L : Array Bool} {i : Nat} (h : L.getD i true = false) : L.getD i false = false := by
  have hlt := getD_lt h
  simpa [Array.getD, hlt] using h

/-- What holds behind operation k, of the value v that it left. -/
def FK (W1 : World) (k : Nat) (w : World) (v : Value) : Prop :=
  match k with
  | 0 => v = .agg #[.int .i64 2, .int .i64 0, .string ⟨#[97]⟩, .slice none 0 0]
  | 1 => v = .agg #[.int .i64 6, .string ⟨#[]⟩, .string ⟨#[]⟩, .int .i64 0, .int .i64 2, .int .i64 0, .string ⟨#[113]⟩, .slice none 0 0, .slice none 0 0, .slice none 0 0, .complex .f64 0 0]
  | 2 => ∃ bb : Nat, v = .slice (some ⟨bb, 0, none⟩) 1 1 ∧ w.heap[bb]? = some (.cells #[.int .i64 6, .string ⟨#[]⟩, .string ⟨#[]⟩, .int .i64 0, .int .i64 2, .int .i64 0, .string ⟨#[113]⟩, .slice none 0 0, .slice none 0 0, .slice none 0 0, .complex .f64 0 0] 29 (0, 0))
  | 3 => v = .agg #[.int .i64 2, .string ⟨#[109]⟩, .string ⟨#[]⟩, .int .i64 0, .int .i64 0, .int .i64 0, .string ⟨#[]⟩, .slice none 0 0, .slice none 0 0, .slice none 0 0, .complex .f64 0 0]
  | 4 => ∃ be : Nat, v = .slice (some ⟨be, 0, none⟩) 1 1 ∧ w.heap[be]? = some (.cells #[.int .i64 2, .string ⟨#[109]⟩, .string ⟨#[]⟩, .int .i64 0, .int .i64 0, .int .i64 0, .string ⟨#[]⟩, .slice none 0 0, .slice none 0 0, .slice none 0 0, .complex .f64 0 0] 29 (0, 0))
  | 5 => ∃ bb be : Nat, v = .agg #[.int .i64 7, .string ⟨#[]⟩, .string ⟨#[]⟩, .int .i64 0, .int .i64 2, .int .i64 0, .string ⟨#[97]⟩, .slice none 0 0, .slice (some ⟨bb, 0, none⟩) 1 1, .slice (some ⟨be, 0, none⟩) 1 1, .complex .f64 0 0] ∧ w.heap[bb]? = some (.cells #[.int .i64 6, .string ⟨#[]⟩, .string ⟨#[]⟩, .int .i64 0, .int .i64 2, .int .i64 0, .string ⟨#[113]⟩, .slice none 0 0, .slice none 0 0, .slice none 0 0, .complex .f64 0 0] 29 (0, 0)) ∧ w.heap[be]? = some (.cells #[.int .i64 2, .string ⟨#[109]⟩, .string ⟨#[]⟩, .int .i64 0, .int .i64 0, .int .i64 0, .string ⟨#[]⟩, .slice none 0 0, .slice none 0 0, .slice none 0 0, .complex .f64 0 0] 29 (0, 0))
  | 6 => v = .agg #[.int .i64 5, .string ⟨#[99]⟩, .string ⟨#[118]⟩, .int .i64 0, .int .i64 0, .int .i64 0, .string ⟨#[]⟩, .slice none 0 0, .slice none 0 0, .slice none 0 0, .complex .f64 0 0]
  | 7 => ∃ b0 bb be : Nat, v = .slice (some ⟨b0, 0, none⟩) 2 2 ∧ w.heap[b0]? = some (.cells #[.int .i64 7, .string ⟨#[]⟩, .string ⟨#[]⟩, .int .i64 0, .int .i64 2, .int .i64 0, .string ⟨#[97]⟩, .slice none 0 0, .slice (some ⟨bb, 0, none⟩) 1 1, .slice (some ⟨be, 0, none⟩) 1 1, .complex .f64 0 0, .int .i64 5, .string ⟨#[99]⟩, .string ⟨#[118]⟩, .int .i64 0, .int .i64 0, .int .i64 0, .string ⟨#[]⟩, .slice none 0 0, .slice none 0 0, .slice none 0 0, .complex .f64 0 0] 29 (0, 0)) ∧ w.heap[bb]? = some (.cells #[.int .i64 6, .string ⟨#[]⟩, .string ⟨#[]⟩, .int .i64 0, .int .i64 2, .int .i64 0, .string ⟨#[113]⟩, .slice none 0 0, .slice none 0 0, .slice none 0 0, .complex .f64 0 0] 29 (0, 0)) ∧ w.heap[be]? = some (.cells #[.int .i64 2, .string ⟨#[109]⟩, .string ⟨#[]⟩, .int .i64 0, .int .i64 0, .int .i64 0, .string ⟨#[]⟩, .slice none 0 0, .slice none 0 0, .slice none 0 0, .complex .f64 0 0] 29 (0, 0))
  | 8 => v = .agg #[.int .i64 2, .int .i64 0, .string ⟨#[119]⟩, .slice none 0 0]
  | 9 => v = .agg #[.int .i64 4, .string ⟨#[99]⟩, .string ⟨#[]⟩, .int .i64 0, .int .i64 2, .int .i64 0, .string ⟨#[119]⟩, .slice none 0 0, .slice none 0 0, .slice none 0 0, .complex .f64 0 0]
  | 10 => ∃ b1 : Nat, v = .slice (some ⟨b1, 0, none⟩) 1 1 ∧ w.heap[b1]? = some (.cells #[.int .i64 4, .string ⟨#[99]⟩, .string ⟨#[]⟩, .int .i64 0, .int .i64 2, .int .i64 0, .string ⟨#[119]⟩, .slice none 0 0, .slice none 0 0, .slice none 0 0, .complex .f64 0 0] 29 (0, 0))
  | 11 => ∃ b5 b0 b1 bb be : Nat, v = .slice (some ⟨b5, 0, none⟩) 2 2 ∧ w.heap[b5]? = some (.cells #[.slice (some ⟨b0, 0, none⟩) 2 2, .slice (some ⟨b1, 0, none⟩) 1 1] 26 (0, 0)) ∧ w.heap[b0]? = some (.cells #[.int .i64 7, .string ⟨#[]⟩, .string ⟨#[]⟩, .int .i64 0, .int .i64 2, .int .i64 0, .string ⟨#[97]⟩, .slice none 0 0, .slice (some ⟨bb, 0, none⟩) 1 1, .slice (some ⟨be, 0, none⟩) 1 1, .complex .f64 0 0, .int .i64 5, .string ⟨#[99]⟩, .string ⟨#[118]⟩, .int .i64 0, .int .i64 0, .int .i64 0, .string ⟨#[]⟩, .slice none 0 0, .slice none 0 0, .slice none 0 0, .complex .f64 0 0] 29 (0, 0)) ∧ w.heap[b1]? = some (.cells #[.int .i64 4, .string ⟨#[99]⟩, .string ⟨#[]⟩, .int .i64 0, .int .i64 2, .int .i64 0, .string ⟨#[119]⟩, .slice none 0 0, .slice none 0 0, .slice none 0 0, .complex .f64 0 0] 29 (0, 0)) ∧ w.heap[bb]? = some (.cells #[.int .i64 6, .string ⟨#[]⟩, .string ⟨#[]⟩, .int .i64 0, .int .i64 2, .int .i64 0, .string ⟨#[113]⟩, .slice none 0 0, .slice none 0 0, .slice none 0 0, .complex .f64 0 0] 29 (0, 0)) ∧ w.heap[be]? = some (.cells #[.int .i64 2, .string ⟨#[109]⟩, .string ⟨#[]⟩, .int .i64 0, .int .i64 0, .int .i64 0, .string ⟨#[]⟩, .slice none 0 0, .slice none 0 0, .slice none 0 0, .complex .f64 0 0] 29 (0, 0))
  | 12 => ∃ b5 b0 b1 bb be : Nat, v = .agg #[.slice none 0 0, .slice (some ⟨b5, 0, none⟩) 2 2] ∧ w.heap[b5]? = some (.cells #[.slice (some ⟨b0, 0, none⟩) 2 2, .slice (some ⟨b1, 0, none⟩) 1 1] 26 (0, 0)) ∧ w.heap[b0]? = some (.cells #[.int .i64 7, .string ⟨#[]⟩, .string ⟨#[]⟩, .int .i64 0, .int .i64 2, .int .i64 0, .string ⟨#[97]⟩, .slice none 0 0, .slice (some ⟨bb, 0, none⟩) 1 1, .slice (some ⟨be, 0, none⟩) 1 1, .complex .f64 0 0, .int .i64 5, .string ⟨#[99]⟩, .string ⟨#[118]⟩, .int .i64 0, .int .i64 0, .int .i64 0, .string ⟨#[]⟩, .slice none 0 0, .slice none 0 0, .slice none 0 0, .complex .f64 0 0] 29 (0, 0)) ∧ w.heap[b1]? = some (.cells #[.int .i64 4, .string ⟨#[99]⟩, .string ⟨#[]⟩, .int .i64 0, .int .i64 2, .int .i64 0, .string ⟨#[119]⟩, .slice none 0 0, .slice none 0 0, .slice none 0 0, .complex .f64 0 0] 29 (0, 0)) ∧ w.heap[bb]? = some (.cells #[.int .i64 6, .string ⟨#[]⟩, .string ⟨#[]⟩, .int .i64 0, .int .i64 2, .int .i64 0, .string ⟨#[113]⟩, .slice none 0 0, .slice none 0 0, .slice none 0 0, .complex .f64 0 0] 29 (0, 0)) ∧ w.heap[be]? = some (.cells #[.int .i64 2, .string ⟨#[109]⟩, .string ⟨#[]⟩, .int .i64 0, .int .i64 0, .int .i64 0, .string ⟨#[]⟩, .slice none 0 0, .slice none 0 0, .slice none 0 0, .complex .f64 0 0] 29 (0, 0))
  | 13 => ∃ bp : Nat, v = .pointer (some ⟨bp, 0, none⟩) ∧ W1.heap.size ≤ bp ∧ w.heap[bp]? = some (.cells #[.slice none 0 0, .slice none 0 0] 33 (0, 0))
  | _ => True
theorem FK.up {W1 w w' : World} {k : Nat} {v : Value} (h : FK W1 k w v) (hk : Kept w w') : FK W1 k w' v := by
  have u : ∀ b o, w.heap[b]? = some o → w'.heap[b]? = some o := fun b o hb => (hk.block b (lt_of_heap hb)).trans hb
  match k, h with
  | 0, h => exact h
  | 1, h => exact h
  | 2, h => exact by obtain ⟨bb, e, r0⟩ := h; exact ⟨bb, e, u _ _ r0⟩
  | 3, h => exact h
  | 4, h => exact by obtain ⟨be, e, r0⟩ := h; exact ⟨be, e, u _ _ r0⟩
  | 5, h => exact by obtain ⟨bb, be, e, r0, r1⟩ := h; exact ⟨bb, be, e, u _ _ r0, u _ _ r1⟩
  | 6, h => exact h
  | 7, h => exact by obtain ⟨b0, bb, be, e, r0, r1, r2⟩ := h; exact ⟨b0, bb, be, e, u _ _ r0, u _ _ r1, u _ _ r2⟩
  | 8, h => exact h
  | 9, h => exact h
  | 10, h => exact by obtain ⟨b1, e, r0⟩ := h; exact ⟨b1, e, u _ _ r0⟩
  | 11, h => exact by obtain ⟨b5, b0, b1, bb, be, e, r0, r1, r2, r3, r4⟩ := h; exact ⟨b5, b0, b1, bb, be, e, u _ _ r0, u _ _ r1, u _ _ r2, u _ _ r3, u _ _ r4⟩
  | 12, h => exact by obtain ⟨b5, b0, b1, bb, be, e, r0, r1, r2, r3, r4⟩ := h; exact ⟨b5, b0, b1, bb, be, e, u _ _ r0, u _ _ r1, u _ _ r2, u _ _ r3, u _ _ r4⟩
  | 13, h => exact by obtain ⟨bp, e, r0, r1⟩ := h; exact ⟨bp, e, r0, u _ _ r1⟩
  | _ + 14, _ => exact trivial
/-- The frame, u k where operation k leaves its value. -/
def frK (B : Nat) (u : Nat → Value) : Act := { tmps := #[.bool false, .pointer (some ⟨B, 0, none⟩), u 13, undef, undef, undef, undef, undef, undef, undef, undef, .agg #[.int .i64 2, .int .i64 0, .string ⟨#[113]⟩, .slice none 0 0], .agg #[.int .i64 6, .string ⟨#[]⟩, .string ⟨#[]⟩, .int .i64 0, .int .i64 2, .int .i64 0, .string ⟨#[113]⟩, .slice none 0 0, .slice none 0 0, .slice none 0 0, .complex .f64 0 0], u 0, u 1, u 2, u 3, u 4, u 5, u 6, u 7, u 8, u 9, u 10, u 11, u 12, undef, undef, undef, undef, undef, undef, undef, undef, undef, undef, undef, undef, undef, undef, undef, undef, undef, undef, undef, undef, undef, undef, undef, undef, undef, undef, undef, undef, undef, undef, undef, undef, undef, undef, undef, undef, undef, undef, undef, undef, undef, undef, undef, undef, undef, undef, undef, undef, undef, undef, undef, undef, undef, undef, undef, undef, undef, undef, undef, undef, undef, undef, undef, undef, undef, undef, undef, undef, undef, undef, undef, undef, undef, undef, undef, undef, undef, undef, undef, undef, undef, undef, undef, undef, undef, undef, undef, undef, undef, undef, undef, undef, undef, undef, undef, undef, undef, undef, undef, undef, undef, undef, undef, undef, undef, undef, undef, undef, undef, undef, undef, undef, undef, undef, undef, undef, undef, undef, undef, undef, undef, undef, undef, undef, undef, undef, undef, undef, undef, undef, undef, undef, undef, undef, undef, undef, undef, undef, undef, undef, undef, undef, undef, undef, undef, undef, undef, undef, undef, undef, undef, undef, undef, undef, undef, undef, undef, undef, undef, undef, undef, undef, undef, undef, undef, undef], defers := [] }
def JK (W1 : World) (B : Nat) (n : Nat) (L : Array Bool) (a : Act) (w : World) : Prop :=
  Left 15 n L ∧ Kept W1 w ∧ ∃ u, a = frK B u ∧ ((L.getD 14 false = false ∧ ∀ k, k < 14 → L.getD k false = true → FK W1 k w (u k)) ∨ ((∀ k, k < 15 → L.getD k false = true) ∧ ∃ bp b5, u 13 = .pointer (some ⟨bp, 0, none⟩) ∧ MadeK W1 w bp b5))
theorem JK.next {W1 w w' : World} {B n i : Nat} {L : Array Bool} {u : Nat → Value} {v : Value} (hL : Left 15 (n + 1) L) (h14 : L.getD 14 false = false) (hF : ∀ k, k < 14 → L.getD k false = true → FK W1 k w (u k)) (hi : i < 14) (hl : L.getD i true = false) (hk : Kept W1 w) (hkk : Kept w w') (hv : FK W1 i w' v) :
    JK W1 B n (L.setIfInBounds i true) (frK B fun k => if k = i then v else u k) w' := by
  refine ⟨hL.step hl, hk.then hkk, _, rfl, .inl ⟨by rw [getD_ne (by omega)]; exact h14, fun k h1 h2 => ?_⟩⟩
  by_cases e : k = i
  · subst e; simp only [if_true]; exact hv
  · rw [getD_ne e] at h2
    simp only [if_neg e]
    exact (hF k h1 h2).up hkk
/-- The values, each with a name. -/
def uK (x0 x1 x2 x3 x4 x5 x6 x7 x8 x9 x10 x11 x12 x13 : Value) : Nat → Value
  | 0 => x0
  | 1 => x1
  | 2 => x2
  | 3 => x3
  | 4 => x4
  | 5 => x5
  | 6 => x6
  | 7 => x7
  | 8 => x8
  | 9 => x9
  | 10 => x10
  | 11 => x11
  | 12 => x12
  | 13 => x13
  | _ => undef
theorem JK.parts {W1 : World} {B n : Nat} {L : Array Bool} {a : Act} {w : World} (h : JK W1 B n L a w) : Left 15 n L ∧ Kept W1 w ∧ ∃ x0 x1 x2 x3 x4 x5 x6 x7 x8 x9 x10 x11 x12 x13, a = frK B (uK x0 x1 x2 x3 x4 x5 x6 x7 x8 x9 x10 x11 x12 x13) ∧ ((L.getD 14 false = false ∧ Hid (∀ k, k < 14 → L.getD k false = true → FK W1 k w (uK x0 x1 x2 x3 x4 x5 x6 x7 x8 x9 x10 x11 x12 x13 k))) ∨ Hid ((∀ k, k < 15 → L.getD k false = true) ∧ ∃ bp b5, x13 = .pointer (some ⟨bp, 0, none⟩) ∧ MadeK W1 w bp b5)) := by
  obtain ⟨hL, hk, u, rfl, h⟩ := h
  refine ⟨hL, hk, u 0, u 1, u 2, u 3, u 4, u 5, u 6, u 7, u 8, u 9, u 10, u 11, u 12, u 13, rfl, ?_⟩
  rcases h with ⟨h1, h2⟩ | ⟨h1, h2⟩
  · refine .inl ⟨h1, fun k hk' hl => ?_⟩
    have := h2 k hk' hl
    match k, hk' with
    | 0, _ => exact this
    | 1, _ => exact this
    | 2, _ => exact this
    | 3, _ => exact this
    | 4, _ => exact this
    | 5, _ => exact this
    | 6, _ => exact this
    | 7, _ => exact this
    | 8, _ => exact this
    | 9, _ => exact this
    | 10, _ => exact this
    | 11, _ => exact this
    | 12, _ => exact this
    | 13, _ => exact this
  · exact .inr ⟨h1, h2⟩
theorem ts_of {w : World} {D : Nat → Prop} {b5 b0 b1 bb be : Nat} (h5 : w.heap[b5]? = some (.cells #[.slice (some ⟨b0, 0, none⟩) 2 2, .slice (some ⟨b1, 0, none⟩) 1 1] 26 (0, 0))) (h0 : w.heap[b0]? = some (.cells #[.int .i64 7, .string ⟨#[]⟩, .string ⟨#[]⟩, .int .i64 0, .int .i64 2, .int .i64 0, .string ⟨#[97]⟩, .slice none 0 0, .slice (some ⟨bb, 0, none⟩) 1 1, .slice (some ⟨be, 0, none⟩) 1 1, .complex .f64 0 0, .int .i64 5, .string ⟨#[99]⟩, .string ⟨#[118]⟩, .int .i64 0, .int .i64 0, .int .i64 0, .string ⟨#[]⟩, .slice none 0 0, .slice none 0 0, .slice none 0 0, .complex .f64 0 0] 29 (0, 0))) (h1 : w.heap[b1]? = some (.cells #[.int .i64 4, .string ⟨#[99]⟩, .string ⟨#[]⟩, .int .i64 0, .int .i64 2, .int .i64 0, .string ⟨#[119]⟩, .slice none 0 0, .slice none 0 0, .slice none 0 0, .complex .f64 0 0] 29 (0, 0))) (hb : w.heap[bb]? = some (.cells #[.int .i64 6, .string ⟨#[]⟩, .string ⟨#[]⟩, .int .i64 0, .int .i64 2, .int .i64 0, .string ⟨#[113]⟩, .slice none 0 0, .slice none 0 0, .slice none 0 0, .complex .f64 0 0] 29 (0, 0))) (he : w.heap[be]? = some (.cells #[.int .i64 2, .string ⟨#[109]⟩, .string ⟨#[]⟩, .int .i64 0, .int .i64 0, .int .i64 0, .string ⟨#[]⟩, .slice none 0 0, .slice none 0 0, .slice none 0 0, .complex .f64 0 0] 29 (0, 0))) (d5 : D b5) (d0 : D b0) (d1 : D b1) (db : D bb) (de : D be) : TsD w D tK (.slice (some ⟨b5, 0, none⟩) 2 2) :=
  TsD.two d5 h5
    (StsD.two (s := sIf) (t := sRecv) d0 h0 (ExsD.nil _ _)
      (StsD.one (s := sPrint) db hb (ExsD.nil _ _) (StsD.nil _ _) (StsD.nil _ _))
      (StsD.one (s := sLock) de he (ExsD.nil _ _) (StsD.nil _ _) (StsD.nil _ _))
      (ExsD.nil _ _) (StsD.nil _ _) (StsD.nil _ _))
    (StsD.one (s := sSend) d1 h1 (ExsD.nil _ _) (StsD.nil _ _) (StsD.nil _ _))
theorem JK.last {W1 w : World} {B n : Nat} {L : Array Bool} {u : Nat → Value} {bp b5 b0 b1 bb be : Nat} (hL : Left 15 (n + 1) L) (hl : L.getD 14 true = false) (hall : ∀ k, k < 14 → L.getD k false = true) (hk : Kept W1 w) (hu : u 13 = .pointer (some ⟨bp, 0, none⟩)) (hB : W1.heap.size ≤ bp)
    (hp : w.heap[bp]? = some (.cells #[.slice none 0 0, .slice none 0 0] 33 (0, 0))) (h5 : w.heap[b5]? = some (.cells #[.slice (some ⟨b0, 0, none⟩) 2 2, .slice (some ⟨b1, 0, none⟩) 1 1] 26 (0, 0))) (h0 : w.heap[b0]? = some (.cells #[.int .i64 7, .string ⟨#[]⟩, .string ⟨#[]⟩, .int .i64 0, .int .i64 2, .int .i64 0, .string ⟨#[97]⟩, .slice none 0 0, .slice (some ⟨bb, 0, none⟩) 1 1, .slice (some ⟨be, 0, none⟩) 1 1, .complex .f64 0 0, .int .i64 5, .string ⟨#[99]⟩, .string ⟨#[118]⟩, .int .i64 0, .int .i64 0, .int .i64 0, .string ⟨#[]⟩, .slice none 0 0, .slice none 0 0, .slice none 0 0, .complex .f64 0 0] 29 (0, 0))) (h1 : w.heap[b1]? = some (.cells #[.int .i64 4, .string ⟨#[99]⟩, .string ⟨#[]⟩, .int .i64 0, .int .i64 2, .int .i64 0, .string ⟨#[119]⟩, .slice none 0 0, .slice none 0 0, .slice none 0 0, .complex .f64 0 0] 29 (0, 0))) (hb : w.heap[bb]? = some (.cells #[.int .i64 6, .string ⟨#[]⟩, .string ⟨#[]⟩, .int .i64 0, .int .i64 2, .int .i64 0, .string ⟨#[113]⟩, .slice none 0 0, .slice none 0 0, .slice none 0 0, .complex .f64 0 0] 29 (0, 0))) (he : w.heap[be]? = some (.cells #[.int .i64 2, .string ⟨#[109]⟩, .string ⟨#[]⟩, .int .i64 0, .int .i64 0, .int .i64 0, .string ⟨#[]⟩, .slice none 0 0, .slice none 0 0, .slice none 0 0, .complex .f64 0 0] 29 (0, 0))) :
    JK W1 B n (L.setIfInBounds 14 true) (frK B u) ((w.setCell ⟨bp, 0, none⟩ (.slice none 0 0)).setCell ⟨bp, 1, none⟩ (.slice (some ⟨b5, 0, none⟩) 2 2)) := by
  have hK : Kept W1 ((w.setCell ⟨bp, 0, none⟩ (.slice none 0 0)).setCell ⟨bp, 1, none⟩ (.slice (some ⟨b5, 0, none⟩) 2 2)) := (hk.setCell (p := ⟨bp, 0, none⟩) hB _).setCell (p := ⟨bp, 1, none⟩) hB _
  have c0 : w.cell? ⟨bp, 0, none⟩ = some (.slice none 0 0) := by rw [cell_of_row w bp _ _ _ (0, 0) hp]; rfl
  have c1 : w.cell? ⟨bp, 1, none⟩ = some (.slice none 0 0) := by rw [cell_of_row w bp _ _ _ (0, 0) hp]; rfl
  have c1' : (w.setCell ⟨bp, 0, none⟩ (.slice none 0 0)).cell? ⟨bp, 1, none⟩ = some (.slice none 0 0) := by rw [World.cell?_setCell_other _ _ _ _ (by simp)]; exact c1
  have ne : ∀ b (o : Obj), w.heap[b]? = some o → o ≠ .cells #[.slice none 0 0, .slice none 0 0] 33 (0, 0) → b ≠ bp := fun b o h1 h2 e => h2 (by rw [e, hp] at h1; exact (Option.some.inj h1).symm)
  have hst : StaysD (fun k => k < w.heap.size ∧ k ≠ bp) w ((w.setCell ⟨bp, 0, none⟩ (.slice none 0 0)).setCell ⟨bp, 1, none⟩ (.slice (some ⟨b5, 0, none⟩) 2 2)) := fun k hk => by
    rw [Below.heap_setCell _ _ _ _ (by exact hk.2), Below.heap_setCell _ _ _ _ (by exact hk.2)]
  have hsz : w.heap.size ≤ ((w.setCell ⟨bp, 0, none⟩ (.slice none 0 0)).setCell ⟨bp, 1, none⟩ (.slice (some ⟨b5, 0, none⟩) 2 2)).heap.size := (((Below.refl 0 w).setCell (p := ⟨bp, 0, none⟩) (Nat.zero_le _) _).setCell (p := ⟨bp, 1, none⟩) (Nat.zero_le _) _).size
  refine ⟨hL.step hl, hK, u, rfl, .inr ⟨fun k hk' => ?_, bp, b5, hu, ?_, ?_, ?_, hK⟩⟩
  · by_cases e : k = 14
    · subst e; exact getD_eq hl
    · rw [getD_ne e]; exact hall k (by omega)
  · rw [World.cell?_setCell_other _ _ _ _ (by simp)]; exact World.cell?_setCell_same _ _ _ c0
  · exact World.cell?_setCell_same _ _ _ c1'
  · refine ((ts_of h5 h0 h1 hb he ⟨lt_of_heap h5, ne _ _ h5 ?_⟩ ⟨lt_of_heap h0, ne _ _ h0 ?_⟩ ⟨lt_of_heap h1, ne _ _ h1 ?_⟩ ⟨lt_of_heap hb, ne _ _ hb ?_⟩ ⟨lt_of_heap he, ne _ _ he ?_⟩).stays hst).mono fun k hk => ⟨Nat.zero_le _, Nat.lt_of_lt_of_le hk.1 hsz⟩
    all_goals simp
#print axioms JK.last
end Go.Proofs.Ytoaaikbplnpmmaa
