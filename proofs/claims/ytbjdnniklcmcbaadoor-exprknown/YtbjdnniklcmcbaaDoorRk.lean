/- What the small functions of package expr answer: rank, sign; the reader's memory, token, isSign, operator. -/
import Derived.Test.YtbjdnniklcmcbaaDoorSplit
import Derived.Test.YtbjdnniklcmcbaaDoorIsName
import Derived.Test.YtbjdnniklcmcbaaDoorPx
import Derived.Test.YtbjdnniklcmcbaaDoorW1
import Derived.Deep.RegionHeld3
import Derived.Laws.EntriesVeiled
namespace Go.Proofs.YtbjdnniklcmcbaaDoor
open Go.RowKit
attribute [local go_sem] run_store_complex

theorem ne_int {k c : Int} (h : k ≠ c) : (k == c) = false := by rw [beq_eq_false_iff_ne]; exact h

theorem rank_any (k : Int) (w : World) : Calls Tryd.prog 23 #[.int .i64 k] w fun e w' => e = .returned (.int .i64 (Px.rnk k : Nat)) ∧ w' = w := by
  by_cases h9 : k = 9
  · subst h9; go_enter Tryd.func23, Tryd.ntmps23; go_wp2; go_ret; exact ⟨rfl, rfl⟩
  by_cases h10 : k = 10
  · subst h10; go_enter Tryd.func23, Tryd.ntmps23; go_wp2; go_ret; exact ⟨rfl, rfl⟩
  by_cases h4 : k = 4
  · subst h4; go_enter Tryd.func23, Tryd.ntmps23; go_wp2; go_ret; exact ⟨rfl, rfl⟩
  by_cases h5 : k = 5
  · subst h5; go_enter Tryd.func23, Tryd.ntmps23; go_wp2; go_ret; exact ⟨rfl, rfl⟩
  by_cases h6 : k = 6
  · subst h6; go_enter Tryd.func23, Tryd.ntmps23; go_wp2; go_ret; exact ⟨rfl, rfl⟩
  by_cases h7 : k = 7
  · subst h7; go_enter Tryd.func23, Tryd.ntmps23; go_wp2; go_ret; exact ⟨rfl, rfl⟩
  by_cases h8 : k = 8
  · subst h8; go_enter Tryd.func23, Tryd.ntmps23; go_wp2; go_ret; exact ⟨rfl, rfl⟩
  have e : Px.rnk k = 4 := by simp [Px.rnk, h4, h5, h6, h7, h8, h9, h10]
  rw [e]
  have g4 := ne_int h4; have g5 := ne_int h5; have g6 := ne_int h6; have g7 := ne_int h7; have g8 := ne_int h8; have g9 := ne_int h9; have g10 := ne_int h10
  clear e h4 h5 h6 h7 h8 h9 h10
  go_enter Tryd.func23, Tryd.ntmps23
  go_wp2
  go_ret
  exact ⟨rfl, rfl⟩

theorem sign_any (k : Int) (w : World) : Calls Tryd.prog 36 #[.int .i64 k] w fun e w' => e = .returned (.string (Px.ba (Px.sgn k))) ∧ w' = w := by
  by_cases h9 : k = 9
  · subst h9; go_enter Tryd.func36, Tryd.ntmps36; go_wp2; go_ret; exact ⟨rfl, rfl⟩
  by_cases h10 : k = 10
  · subst h10; go_enter Tryd.func36, Tryd.ntmps36; go_wp2; go_ret; exact ⟨rfl, rfl⟩
  by_cases h4 : k = 4
  · subst h4; go_enter Tryd.func36, Tryd.ntmps36; go_wp2; go_ret; exact ⟨rfl, rfl⟩
  by_cases h5 : k = 5
  · subst h5; go_enter Tryd.func36, Tryd.ntmps36; go_wp2; go_ret; exact ⟨rfl, rfl⟩
  by_cases h6 : k = 6
  · subst h6; go_enter Tryd.func36, Tryd.ntmps36; go_wp2; go_ret; exact ⟨rfl, rfl⟩
  by_cases h7 : k = 7
  · subst h7; go_enter Tryd.func36, Tryd.ntmps36; go_wp2; go_ret; exact ⟨rfl, rfl⟩
  by_cases h8 : k = 8
  · subst h8; go_enter Tryd.func36, Tryd.ntmps36; go_wp2; go_ret; exact ⟨rfl, rfl⟩
  have e : Px.ba (Px.sgn k) = ⟨#[]⟩ := by simp [Px.ba, Px.sgn, h4, h5, h6, h7, h8, h9, h10]
  rw [e]
  have g4 := ne_int h4; have g5 := ne_int h5; have g6 := ne_int h6; have g7 := ne_int h7; have g8 := ne_int h8; have g9 := ne_int h9; have g10 := ne_int h10
  clear e h4 h5 h6 h7 h8 h9 h10
  go_enter Tryd.func36, Tryd.ntmps36
  go_wp2
  go_ret
  exact ⟨rfl, rfl⟩

/-! ### The reader in memory -/
/-- w' is w grown, and turned in block R alone. -/
structure But (R : Nat) (w w' : World) : Prop where
  os : w'.os = w.os
  tape : w'.tape = w.tape
  output : w'.output = w.output
  size : w.heap.size ≤ w'.heap.size
  block : ∀ k, k < w.heap.size → k ≠ R → w'.heap[k]? = w.heap[k]?
theorem But.of {R : Nat} {w w' : World} (h : Kept w w') : But R w w' := ⟨h.os, h.tape, h.output, h.size, fun k hk _ => h.block k hk⟩
theorem But.refl (R : Nat) (w : World) : But R w w := But.of (Kept.refl w)
theorem But.then {R : Nat} {a b c : World} (h : But R a b) (k : But R b c) : But R a c :=
  ⟨k.os.trans h.os, k.tape.trans h.tape, k.output.trans h.output, Nat.le_trans h.size k.size, fun i hi hn => (k.block i (Nat.lt_of_lt_of_le hi h.size) hn).trans (h.block i hi hn)⟩
theorem But.al {R : Nat} {a w : World} (h : But R a w) (o : Obj) : But R a (w.alloc o) := h.then (But.of ((Kept.refl _).al o))
theorem But.dr {R : Nat} {a w : World} (h : But R a w) : But R a w.drew := h.then (But.of (Kept.refl _).dr)
theorem But.set {R : Nat} {a w : World} (h : But R a w) (o : Nat) (v : Value) : But R a (w.setCell ⟨R, o, none⟩ v) := by
  have hB : Below 0 w (w.setCell ⟨R, o, none⟩ v) := (Below.refl 0 w).setCell (Nat.zero_le _) v
  exact ⟨hB.os.trans h.os, hB.tape.trans h.tape, hB.output.trans h.output, Nat.le_trans h.size hB.size, fun i hi hn => (Below.heap_setCell w _ v i (fun e => hn e)).trans (h.block i hi hn)⟩
theorem But.cell {R : Nat} {w w' : World} (h : But R w w') {b o : Nat} {v : Value} (hc : w.cell? ⟨b, o, none⟩ = some v) (hn : b ≠ R) : w'.cell? ⟨b, o, none⟩ = some v := by
  rw [World.cell?_of_block (w := w) (a := ⟨b, o, none⟩) (h.block b (block_lt_of_cell hc) hn)]; exact hc
theorem But.kept {R : Nat} {w w' a : World} (h : But R w w') (k : Kept a w) (hR : a.heap.size ≤ R) : Kept a w' :=
  ⟨h.os.trans k.os, h.tape.trans k.tape, h.output.trans k.output, Nat.le_trans k.size h.size, fun i hi => (h.block i (Nat.lt_of_lt_of_le hi k.size) (by omega)).trans (k.block i hi)⟩

/-- A list of tokens, cell by cell. -/
structure Row (s : ByteArray) (ts : List Lx.Tk) (g : Nat) (w : World) : Prop where
  cells : ∀ j, j < ts.length * 4 → w.cell? ⟨g, j, none⟩ = (cellsOf s ts)[j]?

theorem told_good {s : ByteArray} {w0 w : World} {ts : List Lx.Tk} {v p e : Value} (h : Told s w0 (.good ts) v p e w) (hne : ts ≠ []) :
    ∃ g cap, v = .slice (some ⟨g, 0, none⟩) ts.length cap ∧ p = .complex .f64 0 0 ∧ e = .int .i64 0 ∧ w0.heap.size ≤ g ∧ g < w.heap.size ∧ Row s ts g w ∧ Kept w0 w := by
  obtain ⟨rfl, rfl, ho, hb⟩ := h
  have hl : 0 < ts.length := List.length_pos_iff.2 hne
  obtain ⟨g, cap, rfl, h1, h2⟩ := ho.form hl
  exact ⟨g, cap, rfl, rfl, rfl, h1, h2, ⟨fun j hj => ho.cellAt j hj⟩, hb⟩

theorem tk_at (s : ByteArray) (ts : List Lx.Tk) (i j : Nat) (hi : i < ts.length) (hj : j < 4) : (cellsOf s ts)[i * 4 + j]? = (tkCells s ts[i])[j]? := by
  induction ts generalizing i with
  | nil => simp at hi
  | cons t r ih =>
    have e : cellsOf s (t :: r) = tkCells s t ++ cellsOf s r := rfl
    rw [e]
    have hl : (tkCells s t).length = 4 := rfl
    cases i with
    | zero => rw [List.getElem?_append_left (by omega)]; simp
    | succ i =>
      rw [List.getElem?_append_right (by omega), hl, show (i + 1) * 4 + j - 4 = i * 4 + j by omega]
      exact ih i (by simpa using hi)

/-- The four cells of token i. -/
theorem Row.at {s : ByteArray} {ts : List Lx.Tk} {g : Nat} {w : World} (h : Row s ts g w) (i : Nat) (hi : i < ts.length) :
    w.cell? ⟨g, i * 4, none⟩ = some (.int .i64 (ts[i].kind : Int)) ∧ w.cell? ⟨g, i * 4 + 1, none⟩ = some (.string ⟨ts[i].text.toArray⟩) ∧ w.cell? ⟨g, i * 4 + 2, none⟩ = some (.int .i64 (ts[i].n : Int)) ∧ w.cell? ⟨g, i * 4 + 3, none⟩ = some (.complex .f64 (lineW s ts[i].at') (colW s ts[i].at')) := by
  refine ⟨?_, ?_, ?_, ?_⟩
  · have := tk_at s ts i 0 hi (by decide); rw [h.cells (i * 4) (by omega)]; exact this
  · have := tk_at s ts i 1 hi (by decide); rw [h.cells (i * 4 + 1) (by omega)]; exact this
  · have := tk_at s ts i 2 hi (by decide); rw [h.cells (i * 4 + 2) (by omega)]; exact this
  · have := tk_at s ts i 3 hi (by decide); rw [h.cells (i * 4 + 3) (by omega)]; exact this

/-- The reader: its tokens, where it is, how deep. -/
structure Rd (w : World) (R g cap : Nat) (s : ByteArray) (ts : List Lx.Tk) (a d : Nat) : Prop where
  c0 : w.cell? ⟨R, 0, none⟩ = some (.slice (some ⟨g, 0, none⟩) ts.length cap)
  c1 : w.cell? ⟨R, 1, none⟩ = some (.int .i64 (a : Int))
  c2 : w.cell? ⟨R, 2, none⟩ = some (.int .i64 (d : Int))
  z1 : w.frozen? ⟨R, 1, none⟩ = false
  z2 : w.frozen? ⟨R, 2, none⟩ = false
  row : Row s ts g w
  ne : g ≠ R
  lt : g < w.heap.size
  few : ts.length ≤ 6001
  le : a ≤ ts.length
  sh : d ≤ 8
theorem Rd.rlt {w : World} {R g cap : Nat} {s : ByteArray} {ts : List Lx.Tk} {a d : Nat} (h : Rd w R g cap s ts a d) : R < w.heap.size := block_lt_of_cell h.c0
theorem Rd.kept {w w' : World} {R g cap : Nat} {s : ByteArray} {ts : List Lx.Tk} {a d : Nat} (h : Rd w R g cap s ts a d) (k : Kept w w') : Rd w' R g cap s ts a d :=
  ⟨k.cellS h.c0, k.cellS h.c1, k.cellS h.c2, (k.frozen (p := ⟨R, 1, none⟩) h.rlt).trans h.z1, (k.frozen (p := ⟨R, 2, none⟩) h.rlt).trans h.z2, ⟨fun j hj => (k.cell (p := ⟨g, j, none⟩) h.lt).trans (h.row.cells j hj)⟩, h.ne, Nat.lt_of_lt_of_le h.lt k.size, h.few, h.le, h.sh⟩
theorem setCell_size (w : World) (a : Addr) (v : Value) : (w.setCell a v).heap.size = w.heap.size := by simp
theorem addr_ne' {B i j : Nat} (h : i ≠ j) : (⟨B, i, none⟩ : Addr) ≠ ⟨B, j, none⟩ := by intro e; exact h (Addr.mk.inj e).2.1
theorem addr_nb {B C i j : Nat} (h : B ≠ C) : (⟨B, i, none⟩ : Addr) ≠ ⟨C, j, none⟩ := by intro e; exact h (Addr.mk.inj e).1
/-- Stepped on. -/
theorem Rd.at' {w : World} {R g cap : Nat} {s : ByteArray} {ts : List Lx.Tk} {a d : Nat} (h : Rd w R g cap s ts a d) (b : Nat) (hb : b ≤ ts.length) : Rd (w.setCell ⟨R, 1, none⟩ (.int .i64 (b : Int))) R g cap s ts b d :=
  ⟨by rw [World.cell?_setCell_other w _ _ _ (addr_ne' (by decide))]; exact h.c0, World.cell?_setCell_same w _ _ h.c1, by rw [World.cell?_setCell_other w _ _ _ (addr_ne' (by decide))]; exact h.c2, by simp [h.z1], by simp [h.z2],
   ⟨fun j hj => by rw [World.cell?_setCell_other w _ _ _ (addr_nb (Ne.symm h.ne))]; exact h.row.cells j hj⟩, h.ne, by rw [setCell_size]; exact h.lt, h.few, hb, h.sh⟩
/-- Deeper. -/
theorem Rd.deep {w : World} {R g cap : Nat} {s : ByteArray} {ts : List Lx.Tk} {a d : Nat} (h : Rd w R g cap s ts a d) (b : Nat) (hb : b ≤ 8) : Rd (w.setCell ⟨R, 2, none⟩ (.int .i64 (b : Int))) R g cap s ts a b :=
  ⟨by rw [World.cell?_setCell_other w _ _ _ (addr_ne' (by decide))]; exact h.c0, by rw [World.cell?_setCell_other w _ _ _ (addr_ne' (by decide))]; exact h.c1, World.cell?_setCell_same w _ _ h.c2, by simp [h.z1], by simp [h.z2],
   ⟨fun j hj => by rw [World.cell?_setCell_other w _ _ _ (addr_nb (Ne.symm h.ne))]; exact h.row.cells j hj⟩, h.ne, by rw [setCell_size]; exact h.lt, h.few, h.le, hb⟩

/-- What is left of the tokens. -/
abbrev left (ts : List Lx.Tk) (a : Nat) : List Lx.Core := (ts.map Lx.Tk.core).drop a
theorem hd_in (ts : List Lx.Tk) (a : Nat) (h : a < ts.length) : Px.hd (left ts a) = (ts[a].kind, ts[a].text, ts[a].n) := by
  unfold left Px.hd
  rw [List.drop_eq_getElem_cons (by simpa using h)]
  simp [Lx.Tk.core]
theorem hd_out (ts : List Lx.Tk) (a : Nat) (h : ts.length ≤ a) : Px.hd (left ts a) = (4, [], 0) := by
  unfold left Px.hd
  rw [List.drop_eq_nil_of_le (by simpa using h)]
  rfl
theorem left_tail (ts : List Lx.Tk) (a : Nat) : (left ts a).tail = left ts (a + 1) := by
  unfold left; rw [List.tail_drop]
theorem left_len (ts : List Lx.Tk) (a : Nat) : (left ts a).length = ts.length - a := by simp [left]
theorem hd_lt (ts : List Lx.Tk) (a : Nat) (h : (Px.hd (left ts a)).1 ≠ 4) : a < ts.length := by
  rcases Nat.lt_or_ge a ts.length with h1 | h1
  · exact h1
  · rw [hd_out ts a h1] at h; exact absurd rfl h

set_option maxRecDepth 100000 in
set_option maxHeartbeats 1000000 in
theorem token_any {R g cap : Nat} {s : ByteArray} {ts : List Lx.Tk} {a d : Nat} {w : World} (h : Rd w R g cap s ts a d) {kd n : Nat} {tx : List UInt8} (ht : Px.hd (left ts a) = (kd, tx, n)) :
    Calls Tryd.prog 51 #[.pointer (some ⟨R, 0, none⟩)] w fun e w' => ∃ x y, e = .returned (.agg #[.int .i64 (kd : Int), .string ⟨tx.toArray⟩, .int .i64 (n : Int), .complex .f64 x y]) ∧ Kept w w' := by
  have hR := h.rlt
  have c0 := h.c0
  have c1 := h.c1
  have hf := h.few
  rcases Nat.lt_or_ge a ts.length with hlt | hge
  · rw [hd_in ts a hlt] at ht
    injection ht with e1 ht
    injection ht with e2 e3
    subst e1 e2 e3
    obtain ⟨d0, d1, d2, d3⟩ := h.row.at a hlt
    have hg := h.lt
    have hlt' : (a : Int) < (ts.length : Int) := by omega
    obtain ⟨n, hn⟩ : ∃ n, ts.length = n := ⟨_, rfl⟩
    have hnb : n ≤ 6001 := by omega
    generalize ts[a].kind = kd at *
    generalize ts[a].text = tx at *
    generalize ts[a].n = nn at *
    generalize lineW s ts[a].at' = X at *
    generalize colW s ts[a].at' = Y at *
    rw [hn] at hlt' c0
    clear h hlt hf hn
    go_enter Tryd.func51, Tryd.ntmps51
    go_wp2_with fail
    go_region
    go_wp2_with fail
    go_region
    go_wp2_with fail
    refine bodyPost_ret (v := .agg #[.int .i64 (kd : Int), .string ⟨tx.toArray⟩, .int .i64 (nn : Int), .complex .f64 X Y]) (by simp [results, Tryd.results51, go_sem]) rfl ⟨_, _, rfl, ((Kept.refl _).al _).dr.dr⟩
  · rw [hd_out ts a hge] at ht
    injection ht with e1 ht
    injection ht with e2 e3
    subst e1 e2 e3
    have hlt' : ¬ (a : Int) < (ts.length : Int) := by omega
    generalize ts.length = n at *
    clear h
    go_enter Tryd.func51, Tryd.ntmps51
    go_wp2_with fail
    go_region
    go_wp2_with fail
    refine bodyPost_ret (v := .agg #[.int .i64 4, .string ⟨#[]⟩, .int .i64 0, .complex .f64 0 0]) (by simp [results, Tryd.results51, go_sem]) rfl ⟨_, _, rfl, ((Kept.refl _).al _).dr⟩

theorem eq_text (tx : List UInt8) (x : ByteArray) : ((⟨tx.toArray⟩ : ByteArray).toList == x.toList) = (tx == x.data.toList) := by
  rw [toList_data, toList_data]

set_option maxRecDepth 100000 in
set_option maxHeartbeats 1000000 in
theorem isSign_any {R g cap : Nat} {s : ByteArray} {ts : List Lx.Tk} {a d : Nat} {w : World} (h : Rd w R g cap s ts a d) (x : ByteArray) (b : Bool) (hb : Px.isSg x.data.toList (Px.hd (left ts a)) = b) :
    Calls Tryd.prog 45 #[.pointer (some ⟨R, 0, none⟩), .string x] w fun e w' => e = .returned (.bool b) ∧ Kept w w' := by
  obtain ⟨kd, tx, n, ht⟩ : ∃ kd tx n, Px.hd (left ts a) = (kd, tx, n) := ⟨_, _, _, rfl⟩
  have HT : Hid (∀ W, Kept w W → Calls Tryd.prog 51 #[.pointer (some ⟨R, 0, none⟩)] W fun e w' => ∃ x y, e = .returned (.agg #[.int .i64 (kd : Int), .string ⟨tx.toArray⟩, .int .i64 (n : Int), .complex .f64 x y]) ∧ Kept W w') := fun W hW => token_any (h.kept hW) ht
  rw [ht] at hb
  have HB : Hid (Px.isSg x.data.toList (kd, tx, n) = b) := hb
  clear hb h ht
  by_cases h3 : kd = 3
  · subst h3
    go_enter Tryd.func45, Tryd.ntmps45
    go_wp2_with fail
    refine (HT.out _ (Kept.refl _)).mono ?_
    rintro e w1 ⟨X, Y, rfl, k1⟩
    have K1 : Hid (Kept w w1) := k1
    clear k1
    go_wp2_with fail
    go_ret
    refine ⟨ret_bool ?_, K1.out.al _⟩
    rw [← HB.out, toList_data]; simp [Px.isSg]
  · have h3' : ((kd : Int) == 3) = false := ne_int (by omega)
    have HF : Hid (b = false) := by
      show b = false
      rw [← HB.out]; simp [Px.isSg, h3]
    clear h3
    go_enter Tryd.func45, Tryd.ntmps45
    go_wp2_with fail
    refine (HT.out _ (Kept.refl _)).mono ?_
    rintro e w1 ⟨X, Y, rfl, k1⟩
    have K1 : Hid (Kept w w1) := k1
    clear k1
    go_wp2_with fail
    go_ret
    exact ⟨ret_bool HF.out.symm, K1.out.al _⟩

/-- The first operator from kind k on. -/
def opFrom (k of : Nat) (t : Lx.Core) : Option Nat := if t.1 = 3 then ((List.range' k (11 - k)).find? fun k => (Px.rnk (k : Nat) == of) && (t.2.1 == Px.sgn (k : Nat))) else none
theorem opFrom_four (of : Nat) (t : Lx.Core) : opFrom 4 of t = Px.opAt of t := rfl
theorem opFrom_end (of : Nat) (t : Lx.Core) : opFrom 11 of t = none := by unfold opFrom; split <;> rfl
theorem opFrom_step (k of : Nat) (t : Lx.Core) (h : k < 11) : opFrom k of t = if ((Px.rnk (k : Nat) == of) && Px.isSg (Px.sgn (k : Nat)) t) = true then some k else opFrom (k + 1) of t := by
  unfold opFrom Px.isSg
  by_cases h3 : t.1 = 3
  · rw [if_pos h3, if_pos h3]
    obtain ⟨m, hm⟩ : ∃ m, 11 - k = m + 1 := ⟨10 - k, by omega⟩
    have e2 : 11 - (k + 1) = m := by omega
    rw [hm, e2, List.range'_succ, List.find?_cons]
    simp only [h3, beq_self_eq_true, Bool.true_and]
    cases ((Px.rnk (k : Nat) == of) && (t.2.1 == Px.sgn (k : Nat))) <;> simp
  · simp [h3]

set_option maxRecDepth 100000 in
set_option maxHeartbeats 1000000 in
theorem operator_any {R g cap : Nat} {s : ByteArray} {ts : List Lx.Tk} {a d : Nat} {w : World} (h : Rd w R g cap s ts a d) (of : Nat) (hof : of ≤ 4) (o : Option Nat) (ho : Px.opAt of (Px.hd (left ts a)) = o) :
    Calls Tryd.prog 34 #[.pointer (some ⟨R, 0, none⟩), .int .i64 (of : Int)] w fun e w' => e = .returned (.tuple #[.int .i64 ((o.getD 0 : Nat) : Int), .bool o.isSome]) ∧ Kept w w' := by
  have HR : Hid (Rd w R g cap s ts a d) := h
  have HO : Hid (Px.opAt of (Px.hd (left ts a)) = o) := ho
  clear h ho
  go_enter Tryd.func34, Tryd.ntmps34
  go_wp2_with fail
  go_loopw [4] (fun i wr => ∃ k : Nat, i = .int .i64 (k : Int) ∧ k ≤ 11 ∧ Hid (Kept w wr) ∧ Hid (opFrom k of (Px.hd (left ts a)) = o)) (fun i _ => 11 - (intOf i).toNat)
  case atStart => exact ⟨4, rfl, by decide, Kept.refl _, HO.out⟩
  case round =>
    obtain ⟨k, rfl, hk, HB, HS⟩ := hrel
    by_cases hlt : k < 11
    · have g1 : (k : Int) ≤ 10 := by omega
      have RK : Hid (∀ W, Calls Tryd.prog 23 #[.int .i64 (k : Int)] W fun e w' => e = .returned (.int .i64 (Px.rnk (k : Nat) : Nat)) ∧ w' = W) := fun W => rank_any k W
      have SG : Hid (∀ W, Calls Tryd.prog 36 #[.int .i64 (k : Int)] W fun e w' => e = .returned (.string (Px.ba (Px.sgn (k : Nat)))) ∧ w' = W) := fun W => sign_any k W
      have IS : Hid (∀ W, Kept w W → Calls Tryd.prog 45 #[.pointer (some ⟨R, 0, none⟩), .string (Px.ba (Px.sgn (k : Nat)))] W fun e w' => e = .returned (.bool (Px.isSg (Px.sgn (k : Nat)) (Px.hd (left ts a)))) ∧ Kept W w') := fun W hW => isSign_any (HR.out.kept hW) _ _ rfl
      have ST := opFrom_step k of (Px.hd (left ts a)) hlt
      rw [HS.out] at ST
      have HST : Hid _ := ST
      clear ST
      generalize Px.ba (Px.sgn (k : Nat)) = SS at *
      generalize Px.isSg (Px.sgn (k : Nat)) (Px.hd (left ts a)) = bb at *
      generalize Px.rnk (k : Nat) = rr at *
      by_cases hr : rr = of
      · subst hr
        go_wp2_with fail
        refine (RK.out _).mono ?_
        rintro e w1 ⟨rfl, hw1⟩
        obtain rfl : wr = w1 := hw1.symm
        clear hw1
        go_wp2_with fail
        refine (SG.out _).mono ?_
        rintro e w1 ⟨rfl, hw1⟩
        obtain rfl : wr = w1 := hw1.symm
        clear hw1
        go_wp2_with fail
        refine (IS.out _ HB.out).mono ?_
        rintro e w1 ⟨rfl, k1⟩
        have HB1 : Hid (Kept w w1) := HB.out.then k1
        clear k1
        cases bb with
        | true =>
          have HO' : Hid (o = some k) := by
            show o = some k
            have := HST.out; simpa using this
          go_wp2_with fail
          go_ret2
          refine ⟨?_, HB1.out⟩
          rw [HO'.out]; rfl
        | false =>
          have HO' : Hid (opFrom (k + 1) rr (Px.hd (left ts a)) = o) := by
            have := HST.out; simp at this; exact this.symm
          go_wp2_with fail
          go_roundw
          case rel => exact ⟨k + 1, by go_num, by omega, HB1, HO'⟩
          case measure => simp [intOf]; omega
      · have hr' : ((rr : Int) == (of : Int)) = false := ne_int (by omega)
        have HO' : Hid (opFrom (k + 1) of (Px.hd (left ts a)) = o) := by
          have := HST.out; simp [hr] at this; exact this.symm
        go_wp2_with fail
        refine (RK.out _).mono ?_
        rintro e w1 ⟨rfl, hw1⟩
        obtain rfl : wr = w1 := hw1.symm
        clear hw1
        go_wp2_with fail
        go_roundw
        case rel => exact ⟨k + 1, by go_num, by omega, HB, HO'⟩
        case measure => simp [intOf]; omega
    · have g1 : ¬ (k : Int) ≤ 10 := by omega
      have hk11 : k = 11 := by omega
      have HN : Hid (o = none) := by
        have := HS.out; rw [hk11, opFrom_end] at this; exact this.symm
      go_wp2_with fail
      go_ret2
      refine ⟨?_, HB.out⟩
      rw [HN.out]; rfl
#print axioms operator_any
end Go.Proofs.YtbjdnniklcmcbaaDoor
