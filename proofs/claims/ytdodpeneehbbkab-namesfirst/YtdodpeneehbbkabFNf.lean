/- Rl8 Nf -/
import Derived.Test.YtdodpeneehbbkabFBs
import Derived.Test.YtdodpeneehbbkabFTq
import Derived.Deep.RegionHeld3
import Derived.Deep.QuietTactic
import Derived.BigQuiet

namespace Go.Proofs.Ytdodpeneehbbkab
open Go.RowKit
attribute [local go_sem] run_store_complex
theorem rlmap_len {ps : List Item} {l : List St} (h : ps.map (·.s) = l) : ps.length = l.length := by rw [← h, List.length_map]
def flatTs : List (List St) → List St
  | [] => []
  | a :: l => St.flats a ++ flatTs l
theorem own_len {ps : List Item} {l : List St} (h : ps.map (·.s) = l) : ps.length = l.length := rlmap_len h
end Go.Proofs.Ytdodpeneehbbkab

namespace Go.Proofs.Ytdodpeneehbbkab
open Go.RowKit
attribute [local go_sem] run_store_complex
namespace Nf
/-- The first declaration of that name, from number k on. -/
def find : List Dc → Nat → ByteArray → Int
  | [], _, _ => -1
  | y :: d, k, x => if y.name = x then (k : Int) else find d (k + 1) x
/-- The kind of the first of that name; 0. -/
def kind : List Dc → ByteArray → Int
  | [], _ => 0
  | y :: d, x => if y.name = x then y.kind else kind d x
def isIn (d : List Dc) (x : ByteArray) : Bool := d.any fun y => decide (y.name = x)
def shared (k : Int) : Bool := (k == 1) || (k == 2) || (k == 3)
def plain (k : Int) : Bool := shared k || (k == 4)
/-- Its own name is of what it must be. -/
def own (d : List Dc) (s : St) : Bool := if s.kind = 2 ∨ s.kind = 3 then kind d s.name == 5 else if s.kind = 4 ∨ s.kind = 5 then kind d s.name == 6 else true
def right (d : List Dc) (s : St) : Bool := own d s && s.touches.all fun x => plain (kind d x)
/-- The first of r whose name is ahead of it. -/
def dup : List Dc → List Dc → Option Dc
  | _, [] => none
  | a, y :: r => if isIn a y.name = true then some y else dup (a ++ [y]) r
def wrong (d : List Dc) (l : List St) : Option St := l.find? fun s => !right d s
/-- What Check tells: where something is wrong. -/
def check (d : List Dc) (t : List (List St)) : Option (Nat × Nat) := match dup [] d with
  | some y => some (y.re, y.im)
  | none => (wrong d (flatTs t)).map fun s => (s.re, s.im)
/-- As Check tells it. -/
def told : Option (Nat × Nat) → Value
  | some (x, y) => .tuple #[.complex .f64 x y, .int .i64 3]
  | none => .tuple #[.complex .f64 0 0, .int .i64 0]
theorem find_step (d : List Dc) (k : Nat) (h : k < d.length) (j : Nat) (x : ByteArray) : find (d.drop k) j x = if d[k].name = x then (j : Int) else find (d.drop (k + 1)) (j + 1) x := by
  rw [List.drop_eq_getElem_cons h]; rfl
theorem find_end (d : List Dc) (k : Nat) (h : d.length ≤ k) (j : Nat) (x : ByteArray) : find (d.drop k) j x = -1 := by
  rw [List.drop_eq_nil_of_le h]; rfl
theorem find_cases (x : ByteArray) : ∀ (d : List Dc) (k : Nat), (find d k x = -1 ∧ ∀ y ∈ d, y.name ≠ x) ∨ ∃ n, ∃ h : n < d.length, find d k x = ((k + n : Nat) : Int) ∧ d[n].name = x ∧ ∀ m, ∀ h' : m < n, (d[m]'(Nat.lt_trans h' h)).name ≠ x
  | [], k => .inl ⟨rfl, fun y h => by cases h⟩
  | y :: d, k => by
    by_cases hy : y.name = x
    · exact .inr ⟨0, by simp, by rw [find, if_pos hy]; rfl, hy, fun m h' => absurd h' (Nat.not_lt_zero _)⟩
    · rcases find_cases x d (k + 1) with ⟨h1, h2⟩ | ⟨n, hn, h1, h2, h3⟩
      · exact .inl ⟨by rw [find, if_neg hy]; exact h1, fun z hz => (List.mem_cons.1 hz).elim (fun e => e ▸ hy) (h2 z)⟩
      · refine .inr ⟨n + 1, by simpa using hn, by rw [find, if_neg hy, h1]; congr 1; omega, by simpa using h2, fun m h' => ?_⟩
        cases m with
        | zero => exact hy
        | succ m => simpa using h3 m (by omega)
end Nf
theorem toL (x : ByteArray) : x.toList = x.data.toList := toList_data x
theorem eqB (a b : ByteArray) : (a.toList == b.toList) = decide (a = b) := by
  rw [toL, toL]
  by_cases h : a = b
  · subst h; simp
  · rw [decide_eq_false h]
    refine beq_false_of_ne fun e => h ?_
    have := Array.toList_inj.1 e
    cases a; cases b; simp at this; rw [this]
set_option maxRecDepth 100000 in
set_option maxHeartbeats 1000000 in
theorem find_any (d : List Dc) (x : ByteArray) (w : World) (v : Value) (a2 : Option Addr) (n2 q2 : Nat) (hd : DsIn w 0 w.heap.size d v) :
    Calls Try.prog 11 #[.agg #[v, .slice a2 n2 q2], .string x] w fun e w' => e = .returned (.int .i64 (Nf.find d 0 x)) ∧ Kept w w' := by
  have HA : Hid _ := hd
  obtain ⟨a, cap, rfl, hl, hl2, hcap⟩ := hd.open
  clear hd
  go_enter Try.func11, Try.ntmps11
  go_wp2_with fail
  obtain ⟨W, hW⟩ : ∃ W, w.alloc (.cells #[.slice a d.length cap, .slice a2 n2 q2] 31) = W := ⟨_, rfl⟩
  have KW : Hid (Kept w W) := by rw [← hW]; exact (Kept.refl _).al _
  rw [hW]
  clear hW
  go_loopw [10] (fun i wr => ∃ k : Nat, i = .int .i64 (k : Int) ∧ k ≤ d.length ∧ Hid (Kept w wr) ∧ Hid (Nf.find d 0 x = Nf.find (d.drop k) k x)) (fun i _ => d.length - (intOf i).toNat)
  case atStart => exact ⟨0, rfl, Nat.zero_le _, KW, rfl⟩
  case round =>
    obtain ⟨k, rfl, hk, HB, HS⟩ := hrel
    by_cases hlt : k < d.length
    · have hki : (k : Int) < (d.length : Int) := by omega
      obtain ⟨b, o, rfl, _, hb, _, c0, c1, c2, c3⟩ := HA.out.item (HB.out.stays (Nat.le_refl _)) k hlt
      have hst := HS.out.trans (Nf.find_step d k hlt k x)
      cases hc : (d[k].name.toList == x.toList) with
      | true =>
        rw [eqB] at hc
        have HE : Hid (Nf.find d 0 x = (k : Int)) := by rw [if_pos (of_decide_eq_true hc)] at hst; exact hst
        have hc : (d[k].name.toList == x.toList) = true := by rw [eqB]; exact hc
        clear hst
        go_wp2_with fail
        go_ret
        exact ⟨by rw [HE.out]; rfl, HB.out.al _⟩
      | false =>
        rw [eqB] at hc
        have HE : Hid (Nf.find d 0 x = Nf.find (d.drop (k + 1)) (k + 1) x) := by rw [if_neg (of_decide_eq_false hc)] at hst; exact hst
        have hc : (d[k].name.toList == x.toList) = false := by rw [eqB]; exact hc
        clear hst
        go_wp2_with fail
        go_roundw
        case rel => exact ⟨k + 1, by go_num, by omega, HB.out.al _, HE⟩
        case measure => simp [intOf]; omega
    · have hki : ¬ (k : Int) < (d.length : Int) := by omega
      have HE : Hid (Nf.find d 0 x = -1) := HS.out.trans (Nf.find_end d k (by omega) k x)
      go_wp2_with fail
      go_ret
      exact ⟨by rw [HE.out]; rfl, HB.out⟩
set_option maxRecDepth 100000 in
theorem shared_any (k : Int) (w : World) : Calls Try.prog 12 #[.int .i64 k] w fun e w' => e = .returned (.bool (Nf.shared k)) ∧ w' = w := by
  cases h1 : (k == 1) with
  | true =>
    have HE : Hid (Nf.shared k = true) := by unfold Nf.shared; rw [h1]; rfl
    go_enter Try.func12, Try.ntmps12
    go_wp2_with fail
    go_ret
    exact ⟨by rw [HE.out]; rfl, rfl⟩
  | false =>
    cases h2 : (k == 2) with
    | true =>
      have HE : Hid (Nf.shared k = true) := by show _ = _; unfold Nf.shared; rw [h1, h2]; rfl
      go_enter Try.func12, Try.ntmps12
      go_wp2_with fail
      go_ret
      exact ⟨by rw [HE.out]; rfl, rfl⟩
    | false =>
      have HE : Hid (Nf.shared k = (k == 3)) := by unfold Nf.shared; rw [h1, h2]; rfl
      go_enter Try.func12, Try.ntmps12
      go_wp2_with fail
      go_ret
      exact ⟨by rw [HE.out]; rfl, rfl⟩
end Go.Proofs.Ytdodpeneehbbkab
