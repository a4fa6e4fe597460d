/- Nf -/
import Derived.Test.YtdodpeneehbbkabXTq
import Derived.Test.YtdodpeneehbbkabXRl8
import Derived.Deep.RegionHeld3
import Derived.Deep.QuietTactic
import Derived.BigQuiet

namespace Go.Proofs.Ytdodpeneehbbkab
open Go.RowKit
attribute [local go_sem] run_store_complex
namespace Nf
def find : List Dc → Nat → ByteArray → Int
  | [], _, _ => -1
  | y :: d, k, x => if y.name = x then (k : Int) else find d (k + 1) x
def kind : List Dc → ByteArray → Int
  | [], _ => 0
  | y :: d, x => if y.name = x then y.kind else kind d x
def isIn (d : List Dc) (x : ByteArray) : Bool := d.any fun y => decide (y.name = x)
def shared (k : Int) : Bool := (k == 1) || (k == 2) || (k == 3)
def plain (k : Int) : Bool := shared k || (k == 4)
def own (d : List Dc) (s : St) : Bool := if s.kind = 2 ∨ s.kind = 3 then kind d s.name == 5 else if s.kind = 4 ∨ s.kind = 5 then kind d s.name == 6 else true
def right (d : List Dc) (s : St) : Bool := own d s && s.touches.all fun x => plain (kind d x)
def dup : List Dc → List Dc → Option Dc
  | _, [] => none
  | a, y :: r => if isIn a y.name = true then some y else dup (a ++ [y]) r
def wrong (d : List Dc) (l : List St) : Option St := l.find? fun s => !right d s
def check (d : List Dc) (t : List (List St)) : Option (Nat × Nat) := match dup [] d with
  | some y => some (y.re, y.im)
  | none => (wrong d (flatTs t)).map fun s => (s.re, s.im)
def told : Option (Nat × Nat) → Value
  | some (x, y) => .tuple #[.complex .f64 x y, .int .i64 3]
  | none => .tuple #[.complex .f64 0 0, .int .i64 0]
theorem find_step (d : List Dc) (k : Nat) (h : k < d.length) (j : Nat) (x : ByteArray) : find (d.drop k) j x = if d[k].name = x then (j : Int) else find (d.drop (k + 1)) (j + 1) x := by
  rw [List.drop_eq_getElem_cons h]; rfl
theorem find_end (d : List Dc) (k : Nat) (h : d.length ≤ k) (j : Nat) (x : ByteArray) : find (d.drop k) j x = -1 := by
  rw [List.drop_eq_nil_of_le h]; rfl
theorem find_cases (x : ByteArray) : ∀ (d : List Dc) (k : Nat), (find d k x = -1 ∧ ∀ y ∈ d, y.name ≠ x) ∨ ∃ n, ∃ h : n < d.length, find d k x = ((k + n : Nat) : Int) ∧ d[n].name = x ∧ ∀ m, ∀ h' : m < n, (d[m]'(Nat.lt_trans h' h)).name ≠ x
  | [], k => .inl ⟨rfl, fun y h => by cases h⟩
  | y :: d, k => by
    by_cases hy : y.name = x
    · exact .inr ⟨0, by simp, by rw [find, if_pos hy]; rfl, hy, fun m h' => absurd h' (Nat.not_lt_zero _)⟩
    · rcases find_cases x d (k + 1) with ⟨h1, h2⟩ | ⟨n, hn, h1, h2, h3⟩
      · exact .inl ⟨by rw [find, if_neg hy]; exact h1, fun z hz => (List.mem_cons.1 hz).elim (fun e => e ▸ hy) (h2 z)⟩
      · refine .inr ⟨n + 1, by simpa using hn, by rw [find, if_neg hy, h1]; congr 1; omega, by simpa using h2, fun m h' => ?_⟩
        cases m with
        | zero => exact hy
        | succ m => simpa using h3 m (by omega)
theorem kind_find (d : List Dc) (x : ByteArray) : ∀ k, kind d x = if find d k x < 0 then 0 else (d.getD (find d k x - k).toNat dc0).kind := by
  intro k
  rcases find_cases x d k with ⟨h1, h2⟩ | ⟨n, hn, h1, h2, h3⟩
  · rw [h1, if_pos (by decide)]
    clear h1
    induction d with
    | nil => rfl
    | cons y d ih => rw [kind, if_neg (h2 y (List.mem_cons_self ..))]; exact ih fun z hz => h2 z (List.mem_cons_of_mem _ hz)
  · rw [h1, if_neg (by omega), show (((k + n : Nat) : Int) - (k : Int)).toNat = n by omega]
    have hg : d.getD n dc0 = d[n] := by simp [List.getD, hn]
    rw [hg]
    clear h1 hg
    induction d generalizing n with
    | nil => simp at hn
    | cons y d ih =>
      cases n with
      | zero => rw [kind, if_pos (by simpa using h2)]; rfl
      | succ n =>
        rw [kind, if_neg (by simpa using h3 0 (by omega))]
        exact ih n (by simpa using hn) (by simpa using h2) fun m h' => by simpa using h3 (m + 1) (by omega)
end Nf
theorem toL (x : ByteArray) : x.toList = x.data.toList := toList_data x
theorem eqB (a b : ByteArray) : (a.toList == b.toList) = decide (a = b) := by
  rw [toL, toL]
  by_cases h : a = b
  · subst h; simp
  · rw [decide_eq_false h]
    refine beq_false_of_ne fun e => h ?_
    have := Array.toList_inj.1 e
    cases a; cases b; simp at this; rw [this]
set_option maxRecDepth 100000 in
set_option maxHeartbeats 1000000 in
theorem find_any (d : List Dc) (x : ByteArray) (w : World) (v : Value) (a2 : Option Addr) (n2 q2 : Nat) (hd : DsIn w 0 w.heap.size d v) :
    Calls Try.prog 11 #[.agg #[v, .slice a2 n2 q2], .string x] w fun e w' => e = .returned (.int .i64 (Nf.find d 0 x)) ∧ Kept w w' := by
  have HA : Hid _ := hd
  obtain ⟨a, cap, rfl, hl, hl2, hcap⟩ := hd.open
  clear hd
  go_enter Try.func11, Try.ntmps11
  go_wp2_with fail
  obtain ⟨W, hW⟩ : ∃ W, w.alloc (.cells #[.slice a d.length cap, .slice a2 n2 q2] 31) = W := ⟨_, rfl⟩
  have KW : Hid (Kept w W) := by rw [← hW]; exact (Kept.refl _).al _
  rw [hW]
  clear hW
  go_loopw [10] (fun i wr => ∃ k : Nat, i = .int .i64 (k : Int) ∧ k ≤ d.length ∧ Hid (Kept w wr) ∧ Hid (Nf.find d 0 x = Nf.find (d.drop k) k x)) (fun i _ => d.length - (intOf i).toNat)
  case atStart => exact ⟨0, rfl, Nat.zero_le _, KW, rfl⟩
  case round =>
    obtain ⟨k, rfl, hk, HB, HS⟩ := hrel
    by_cases hlt : k < d.length
    · have hki : (k : Int) < (d.length : Int) := by omega
      obtain ⟨b, o, rfl, _, hb, _, c0, c1, c2, c3⟩ := HA.out.item (HB.out.stays (Nat.le_refl _)) k hlt
      have hst := HS.out.trans (Nf.find_step d k hlt k x)
      cases hc : (d[k].name.toList == x.toList) with
      | true =>
        rw [eqB] at hc
        have HE : Hid (Nf.find d 0 x = (k : Int)) := by rw [if_pos (of_decide_eq_true hc)] at hst; exact hst
        have hc : (d[k].name.toList == x.toList) = true := by rw [eqB]; exact hc
        clear hst
        go_wp2_with fail
        go_ret
        exact ⟨by rw [HE.out]; rfl, HB.out.al _⟩
      | false =>
        rw [eqB] at hc
        have HE : Hid (Nf.find d 0 x = Nf.find (d.drop (k + 1)) (k + 1) x) := by rw [if_neg (of_decide_eq_false hc)] at hst; exact hst
        have hc : (d[k].name.toList == x.toList) = false := by rw [eqB]; exact hc
        clear hst
        go_wp2_with fail
        go_roundw
        case rel => exact ⟨k + 1, by go_num, by omega, HB.out.al _, HE⟩
        case measure => simp [intOf]; omega
    · have hki : ¬ (k : Int) < (d.length : Int) := by omega
      have HE : Hid (Nf.find d 0 x = -1) := HS.out.trans (Nf.find_end d k (by omega) k x)
      go_wp2_with fail
      go_ret
      exact ⟨by rw [HE.out]; rfl, HB.out⟩
set_option maxRecDepth 100000 in
set_option maxHeartbeats 1000000 in
theorem rfind_any (d : List Dc) (x : ByteArray) (w : World) (v : Value) (a2 : Option Addr) (n2 q2 : Nat) (hd : DsIn w 0 w.heap.size d v) :
    Calls Try.prog 18 #[.agg #[v, .slice a2 n2 q2], .string x] w fun e w' => e = .returned (.int .i64 (Nf.find d 0 x)) ∧ Kept w w' := by
  have HA : Hid _ := hd
  obtain ⟨a, cap, rfl, hl, hl2, hcap⟩ := hd.open
  clear hd
  go_enter Try.func18, Try.ntmps18
  go_wp2_with fail
  obtain ⟨W, hW⟩ : ∃ W, w.alloc (.cells #[.slice a d.length cap, .slice a2 n2 q2] 31) = W := ⟨_, rfl⟩
  have KW : Hid (Kept w W) := by rw [← hW]; exact (Kept.refl _).al _
  have HB0 : Hid (W.cell? ⟨w.heap.size, 0, none⟩ = some (.slice a d.length cap)) := by rw [← hW]; show _ = _; simp
  rw [hW]
  clear hW
  go_loopw [5] (fun i wr => ∃ k : Nat, i = .int .i64 (k : Int) ∧ k ≤ d.length ∧ Hid (Kept W wr) ∧ Hid (Nf.find d 0 x = Nf.find (d.drop k) k x)) (fun i _ => d.length - (intOf i).toNat)
  case atStart => exact ⟨0, rfl, Nat.zero_le _, Kept.refl _, rfl⟩
  case round =>
    obtain ⟨k, rfl, hk, HB, HS⟩ := hrel
    have b0 := HB.out.cellS HB0.out
    have hbl := block_lt_of_cell b0
    by_cases hlt : k < d.length
    · have hki : (k : Int) < (d.length : Int) := by omega
      obtain ⟨b, o, rfl, _, hb, _, c0, c1, c2, c3⟩ := HA.out.item ((KW.out.then HB.out).stays (Nat.le_refl _)) k hlt
      have hst := HS.out.trans (Nf.find_step d k hlt k x)
      cases hc : (d[k].name.toList == x.toList) with
      | true =>
        rw [eqB] at hc
        have HE : Hid (Nf.find d 0 x = (k : Int)) := by rw [if_pos (of_decide_eq_true hc)] at hst; exact hst
        have hc : (d[k].name.toList == x.toList) = true := by rw [eqB]; exact hc
        clear hst
        go_wp2_with fail
        go_ret
        exact ⟨by rw [HE.out]; rfl, KW.out.then HB.out⟩
      | false =>
        rw [eqB] at hc
        have HE : Hid (Nf.find d 0 x = Nf.find (d.drop (k + 1)) (k + 1) x) := by rw [if_neg (of_decide_eq_false hc)] at hst; exact hst
        have hc : (d[k].name.toList == x.toList) = false := by rw [eqB]; exact hc
        clear hst
        go_wp2_with fail
        go_roundw
        case rel => exact ⟨k + 1, by go_num, by omega, HB, HE⟩
        case measure => simp [intOf]; omega
    · have hki : ¬ (k : Int) < (d.length : Int) := by omega
      have HE : Hid (Nf.find d 0 x = -1) := HS.out.trans (Nf.find_end d k (by omega) k x)
      go_wp2_with fail
      go_ret
      exact ⟨by rw [HE.out]; rfl, KW.out.then HB.out⟩
set_option maxRecDepth 100000 in
theorem shared_any (k : Int) (w : World) : Calls Try.prog 12 #[.int .i64 k] w fun e w' => e = .returned (.bool (Nf.shared k)) ∧ w' = w := by
  cases h1 : (k == 1) with
  | true =>
    have HE : Hid (Nf.shared k = true) := by unfold Nf.shared; rw [h1]; rfl
    go_enter Try.func12, Try.ntmps12
    go_wp2_with fail
    go_ret
    exact ⟨by rw [HE.out]; rfl, rfl⟩
  | false =>
    cases h2 : (k == 2) with
    | true =>
      have HE : Hid (Nf.shared k = true) := by show _ = _; unfold Nf.shared; rw [h1, h2]; rfl
      go_enter Try.func12, Try.ntmps12
      go_wp2_with fail
      go_ret
      exact ⟨by rw [HE.out]; rfl, rfl⟩
    | false =>
      have HE : Hid (Nf.shared k = (k == 3)) := by unfold Nf.shared; rw [h1, h2]; rfl
      go_enter Try.func12, Try.ntmps12
      go_wp2_with fail
      go_ret
      exact ⟨by rw [HE.out]; rfl, rfl⟩
set_option maxRecDepth 100000 in
theorem rshared_any (k : Int) (w : World) : Calls Try.prog 19 #[.int .i64 k] w fun e w' => e = .returned (.bool (Nf.shared k)) ∧ w' = w := by
  cases h1 : (k == 1) with
  | true =>
    have HE : Hid (Nf.shared k = true) := by unfold Nf.shared; rw [h1]; rfl
    go_enter Try.func19, Try.ntmps19
    go_wp2_with fail
    go_ret
    exact ⟨by rw [HE.out]; rfl, rfl⟩
  | false =>
    cases h2 : (k == 2) with
    | true =>
      have HE : Hid (Nf.shared k = true) := by show _ = _; unfold Nf.shared; rw [h1, h2]; rfl
      go_enter Try.func19, Try.ntmps19
      go_wp2_with fail
      go_ret
      exact ⟨by rw [HE.out]; rfl, rfl⟩
    | false =>
      have HE : Hid (Nf.shared k = (k == 3)) := by unfold Nf.shared; rw [h1, h2]; rfl
      go_enter Try.func19, Try.ntmps19
      go_wp2_with fail
      go_ret
      exact ⟨by rw [HE.out]; rfl, rfl⟩
set_option maxRecDepth 100000 in
theorem rplain_any (k : Int) (w : World) : Calls Try.prog 45 #[.int .i64 k] w fun e w' => e = .returned (.bool (Nf.plain k)) ∧ w' = w := by
  have SH : Hid (∀ W, Calls Try.prog 19 #[.int .i64 k] W fun e w' => e = .returned (.bool (Nf.shared k)) ∧ w' = W) := fun W => rshared_any k W
  cases hs : Nf.shared k with
  | true =>
    rw [hs] at SH
    have HE : Hid (Nf.plain k = true) := by unfold Nf.plain; rw [hs]; rfl
    clear hs
    go_enter Try.func45, Try.ntmps45
    go_wp2_with fail
    refine (SH.out _).mono ?_
    rintro e w1 ⟨rfl, rfl⟩
    go_wp2_with fail
    go_ret
    exact ⟨by rw [HE.out]; rfl, rfl⟩
  | false =>
    rw [hs] at SH
    have HE : Hid (Nf.plain k = (k == 4)) := by unfold Nf.plain; rw [hs]; rfl
    clear hs
    go_enter Try.func45, Try.ntmps45
    go_wp2_with fail
    refine (SH.out _).mono ?_
    rintro e w1 ⟨rfl, rfl⟩
    go_wp2_with fail
    go_ret
    exact ⟨by rw [HE.out]; rfl, rfl⟩
end Go.Proofs.Ytdodpeneehbbkab
