/- Sc Sf -/
import Derived.Test.YtnfkjmafhaecgaaYSb

namespace Go.Proofs.Ytnfkjmafhaecgaa
open Go.RowKit
namespace Lx
theorem one_kind (c : UInt8) (r : List UInt8) {k len n : Nat} (h : one (c :: r) = some (k, len, n)) : k = kindOf [c] := by
  rw [one_cons] at h
  show k = if lower c = true then 1 else if digit c = true then 2 else 3
  by_cases c1 : lower c = true
  · rw [if_pos c1] at h ⊢
    split at h
    · simp at h; exact h.1.symm
    · cases h
  · rw [if_neg c1] at h ⊢
    by_cases c2 : digit c = true
    · rw [if_pos c2] at h ⊢
      cases hn : num (c :: r.takeWhile digit) with
      | none => rw [hn] at h; cases h
      | some m => rw [hn] at h; simp at h; exact h.1.symm
    · rw [if_neg c2] at h ⊢
      split at h
      · simp at h; exact h.1.symm
      · split at h
        · simp at h; exact h.1.symm
        · cases h
theorem run_sort (f : Nat) : ∀ (p : Nat) (l : List UInt8) (ts : List Tk), run f p l = .good ts → ∀ t ∈ ts, t.kind = kindOf t.text ∧ t.at' ≤ p + l.length := by
  induction f with
  | zero => intro p l ts h; cases h
  | succ f ih =>
    intro p l ts h
    cases l with
    | nil =>
      simp [run] at h
      subst h
      intro t ht
      simp at ht
      subst ht
      exact ⟨rfl, Nat.le_refl _⟩
    | cons c r =>
      rw [run_cons] at h
      split at h
      · intro t ht
        obtain ⟨h1, h2⟩ := ih _ _ _ h t ht
        exact ⟨h1, by rw [List.length_cons]; omega⟩
      · split at h
        · intro t ht
          obtain ⟨h1, h2⟩ := ih _ _ _ h t ht
          refine ⟨h1, ?_⟩
          have h3 : (r.takeWhile noFeed).length ≤ r.length := (List.takeWhile_sublist _).length_le
          rw [List.length_drop] at h2
          rw [List.length_cons]; omega
        · cases ho : one (c :: r) with
          | none => rw [ho] at h; cases h
          | some x =>
            obtain ⟨k, len, n⟩ := x
            have hl := one_len ho
            have hk := one_kind c r ho
            rw [ho] at h
            simp only [] at h
            cases hr : run f (p + len) ((c :: r).drop len) with
            | bad q => rw [hr] at h; cases h
            | good us =>
              rw [hr] at h
              simp only [Out.pre, Out.good.injEq] at h
              subst h
              intro t ht
              rcases List.mem_append.1 ht with ht | ht
              · rw [List.mem_singleton] at ht
                subst ht
                refine ⟨?_, by show p ≤ _; omega⟩
                show k = kindOf ((c :: r).take len)
                obtain ⟨len', rfl⟩ : ∃ len', len = len' + 1 := ⟨len - 1, by omega⟩
                rw [List.take_succ_cons, hk]
                rfl
              · obtain ⟨h1, h2⟩ := ih _ _ _ hr t ht
                refine ⟨h1, ?_⟩
                rw [List.length_drop] at h2
                omega
theorem toks_sort (l : List UInt8) (ts : List Tk) (h : toks l = .good ts) : ∀ t ∈ ts, t.kind = kindOf t.text ∧ t.at' ≤ l.length := by
  unfold toks at h
  split at h
  · cases h
  · intro t ht
    obtain ⟨h1, h2⟩ := run_sort _ _ _ _ h t ht
    exact ⟨h1, by omega⟩
end Lx
theorem tkok_of {s : ByteArray} {ts : List Lx.Tk} (hs : s.size ≤ 1125899906842624) (h : Lx.toks s.data.toList = .good ts) : TkOk s ts := by
  have hl : s.data.toList.length = s.size := Array.length_toList
  exact ⟨fun t ht => (Lx.toks_fit _ _ h t ht).1, fun t ht => (Lx.toks_sort _ _ h t ht).1, fun t ht => by have := (Lx.toks_sort _ _ h t ht).2; omega, hs⟩
/-! ### declKind -/
def dwArr : Array ByteArray := #[⟨#[118, 97, 114]⟩, ⟨#[119, 105, 100, 101]⟩, ⟨#[97, 116, 111, 109, 105, 99]⟩, ⟨#[108, 111, 99, 97, 108]⟩, ⟨#[109, 117, 116, 101, 120]⟩, ⟨#[99, 104, 97, 110]⟩]
theorem dw_index2 (k : Nat) (hk : k < 6) (w : World) : (Instr.index 111 (.agg #[.string ⟨#[118, 97, 114]⟩, .string ⟨#[119, 105, 100, 101]⟩, .string ⟨#[97, 116, 111, 109, 105, 99]⟩, .string ⟨#[108, 111, 99, 97, 108]⟩, .string ⟨#[109, 117, 116, 101, 120]⟩, .string ⟨#[99, 104, 97, 110]⟩]) (.int .i64 (k : Int))).run Try.prog w = .ok (.string (dwArr.getD k ⟨#[]⟩)) w := by
  have h9 := Try.sizeOf9
  have ha := Try.isAgg9
  match k, hk with
  | 0, _ | 1, _ | 2, _ | 3, _ | 4, _ | 5, _ => simp [Instr.index, go_sem, h9, ha, dwArr, Array.getD]
/-- The first of them that it is. -/
def dkFrom (k : Nat) (t : List UInt8) : Nat := match ((List.range' k (6 - k)).find? fun j => t == (dwArr.getD j ⟨#[]⟩).toList) with
  | some j => j + 1
  | none => 0
theorem dkFrom_step (k : Nat) (hk : k < 6) (t : List UInt8) : dkFrom k t = if (t == (dwArr.getD k ⟨#[]⟩).toList) = true then k + 1 else dkFrom (k + 1) t := by
  unfold dkFrom
  rw [show 6 - k = (6 - (k + 1)) + 1 by omega, List.range'_succ, List.find?_cons]
  cases (t == (dwArr.getD k ⟨#[]⟩).toList) <;> rfl
theorem dkFrom_end (t : List UInt8) : dkFrom 6 t = 0 := rfl
theorem dkFrom_zero (t : List UInt8) : dkFrom 0 t = Pp.dk t := by
  have e : ∀ k, k < 6 → (dwArr.getD k ⟨#[]⟩).toList = ([[118, 97, 114], [119, 105, 100, 101], [97, 116, 111, 109, 105, 99], [108, 111, 99, 97, 108], [109, 117, 116, 101, 120], [99, 104, 97, 110]] : List (List UInt8)).getD k [] := by decide +kernel
  rw [dkFrom_step 0 (by decide), dkFrom_step 1 (by decide), dkFrom_step 2 (by decide), dkFrom_step 3 (by decide), dkFrom_step 4 (by decide), dkFrom_step 5 (by decide), dkFrom_end, e 0 (by decide), e 1 (by decide), e 2 (by decide), e 3 (by decide), e 4 (by decide), e 5 (by decide)]
  simp [Pp.dk]
set_option maxRecDepth 100000 in
set_option maxHeartbeats 1000000 in
theorem rdeclKind_any (t : List UInt8) (w : World) : Calls Try.prog 48 #[.string (Px.ba t)] w fun e w' => e = .returned (.int .i64 (Pp.dk t : Nat)) ∧ w' = w := by
  have HD : Hid (Pp.dk t = dkFrom 0 t) := (dkFrom_zero t).symm
  have ht : (Px.ba t).toList = t := by rw [toList_data]; rfl
  obtain ⟨T, hT⟩ : ∃ T, Px.ba t = T := ⟨_, rfl⟩
  rw [hT] at ht ⊢
  have HT : Hid (T.toList = t) := ht
  clear hT ht
  go_enter Try.func48, Try.ntmps48
  go_wp2_with fail
  go_loop [6] (fun i => ∃ k : Nat, k ≤ 6 ∧ i = .int .i64 (k : Int) ∧ Hid (Pp.dk t = dkFrom k t)) (fun i => 6 - (intOf i).toNat)
  case atStart => exact ⟨0, Nat.zero_le _, rfl, HD⟩
  case round =>
    obtain ⟨k, hk, rfl, HK⟩ := hrel
    by_cases hlt : k < 6
    · have hix := dw_index2 k hlt
      have hki : (k : Int) < 6 := by omega
      have hst := HK.out.trans (dkFrom_step k hlt t)
      rw [← HT.out] at hst
      have hwr : IntKind.i64.wrap ((k : Int) + 1) = (k : Int) + 1 := by rw [IntKind.wrap_i64]; omega
      have hwr' : IntKind.i64.wrap (1 + (k : Int)) = 1 + (k : Int) := by rw [IntKind.wrap_i64]; omega
      cases hc : (T.toList == (dwArr.getD k ⟨#[]⟩).toList) with
      | true =>
        rw [hc] at hst
        have HR : Hid (Pp.dk T.toList = k + 1) := hst
        clear hst
        generalize dwArr.getD k ⟨#[]⟩ = X at *
        go_wp2
        go_ret
        refine ⟨?_, rfl⟩
        rw [← HT.out, HR.out]
        show Ending.returned (.int .i64 (1 + (k : Int))) = _
        congr 2
        omega
      | false =>
        rw [hc, HT.out] at hst
        have HR : Hid (Pp.dk t = dkFrom (k + 1) t) := hst
        clear hst
        generalize dwArr.getD k ⟨#[]⟩ = X at *
        go_wp2
        go_round
        case rel => exact ⟨k + 1, by omega, by go_num, HR⟩
        case measure => simp [intOf]; omega
    · obtain rfl : k = 6 := by omega
      have HR : Hid (Pp.dk t = 0) := HK.out
      go_wp2
      go_ret
      exact ⟨by rw [HR.out]; rfl, rfl⟩
end Go.Proofs.Ytnfkjmafhaecgaa

namespace Go.Proofs.Ytnfkjmafhaecgaa
open Go.RowKit
theorem rtk_at (ts : List Lx.Tk) (i j : Nat) (hi : i < ts.length) (hj : j < 4) : (rCellsOf ts)[i * 4 + j]? = (rCells ts[i])[j]? := by
  induction ts generalizing i with
  | nil => simp at hi
  | cons t ts ih =>
    have hl : (rCells t).length = 4 := rfl
    rw [show rCellsOf (t :: ts) = rCells t ++ rCellsOf ts from List.flatMap_cons]
    cases i with
    | zero => rw [List.getElem?_append_left (by rw [hl]; omega)]; simp
    | succ i =>
      rw [List.getElem?_append_right (by rw [hl]; omega), hl, show (i + 1) * 4 + j - 4 = i * 4 + j by omega, ih i (by simpa using hi)]
      rfl
theorem rtold_good {w0 w : World} {ts : List Lx.Tk} {v p e : Value} (h : RTold w0 (.good ts) v p e w) (hne : ts ≠ []) :
    ∃ g cap, v = .slice (some ⟨g, 0, none⟩) ts.length cap ∧ p = .int .i64 0 ∧ e = .int .i64 0 ∧ w0.heap.size ≤ g ∧ g < w.heap.size ∧ (∀ i (hi : i < ts.length), w.rangeAt g (i * 4) (rCells ts[i])) ∧ Kept w0 w := by
  obtain ⟨rfl, rfl, ho, hk⟩ := h
  have hn : 0 < ts.length := List.length_pos_iff.2 hne
  obtain ⟨a, cap, rfl, hs⟩ := own_slice ho
  cases a with
  | none => have h1 := hs.nil rfl; have h2 := hs.le; omega
  | some ad =>
    rcases ho.2 with ⟨e0, -⟩ | ⟨g, cap', cur, e0, -⟩
    · cases e0
    · injection e0 with e1 e2 e3
      injection e1 with e1
      subst e1 e3
      have hlt := ho.lt g rfl
      refine ⟨g, cap, rfl, rfl, rfl, hlt.1, hlt.2, fun i hi j u hu => ?_, hk⟩
      have hj : j < 4 := by
        rcases Nat.lt_or_ge j 4 with h | h
        · exact h
        · rw [List.getElem?_eq_none (by show 4 ≤ j; exact h)] at hu; cases hu
      have hc := ho.cells (g := g) rfl (i * 4 + j) u (by rw [rtk_at ts i j hi hj]; exact hu)
      rw [Addr.add_mid, Nat.zero_add] at hc
      exact hc
/-- The reader, as Parse makes it. -/
theorem rq_start {w W : World} {ts : List Lx.Tk} {g cap R : Nat} (hrow : ∀ i (hi : i < ts.length), w.rangeAt g (i * 4) (rCells ts[i])) (hg : g < w.heap.size) (hR : W.heap.size = R) (hk : Kept w W) (hf : ts.length ≤ 6001) :
    Rq (W.alloc (.cells #[.slice (some ⟨g, 0, none⟩) ts.length cap, .int .i64 0, .bool false, .int .i64 0] 97)) R g cap ts 0 false 0 := by
  subst hR
  have hb := box_of (heap_alloc_new W (.cells #[.slice (some ⟨g, 0, none⟩) ts.length cap, .int .i64 0, .bool false, .int .i64 0] 97 (0, 0)))
  have hz := hk.size
  refine ⟨hb.cell 0 rfl, hb.cell 1 rfl, hb.cell 2 rfl, hb.cell 3 rfl, hb.fz, fun i hi j v hv => (hk.al _).cellS (hrow i hi j v hv), by omega, by simp; omega, hf, Nat.zero_le _⟩
end Go.Proofs.Ytnfkjmafhaecgaa
