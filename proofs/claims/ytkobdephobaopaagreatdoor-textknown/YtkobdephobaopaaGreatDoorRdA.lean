/- What the small functions of package expr answer: rank, sign; the reader's memory, token, isSign, operator. What the reader's methods leave; row, which reads parts with operators between. -/
import Derived.Test.YtkobdephobaopaaGreatDoorSplit
import Derived.Test.YtkobdephobaopaaGreatDoorNm5
import Derived.Test.YtkobdephobaopaaGreatDoorPlA
import Derived.Deep.RegionHeld3
import Derived.Laws.EntriesVeiled
import Derived.Test.YtkobdephobaopaaGreatDoorKpA
import Derived.Laws.ResultCell

namespace Go.Proofs.YtkobdephobaopaaGreatDoor
open Go.RowKit
attribute [local go_sem] run_store_complex

theorem ne_int {k c : Int} (h : k ≠ c) : (k == c) = false := by rw [beq_eq_false_iff_ne]; exact h

theorem rank_any (k : Int) (w : World) : Calls Tryz.prog 157 #[.int .i64 k] w fun e w' => e = .returned (.int .i64 (Px.rnk k : Nat)) ∧ w' = w := by
  by_cases h9 : k = 9
  · subst h9; go_enter Tryz.func157, Tryz.ntmps157; go_wp2; go_ret; exact ⟨rfl, rfl⟩
  by_cases h10 : k = 10
  · subst h10; go_enter Tryz.func157, Tryz.ntmps157; go_wp2; go_ret; exact ⟨rfl, rfl⟩
  by_cases h4 : k = 4
  · subst h4; go_enter Tryz.func157, Tryz.ntmps157; go_wp2; go_ret; exact ⟨rfl, rfl⟩
  by_cases h5 : k = 5
  · subst h5; go_enter Tryz.func157, Tryz.ntmps157; go_wp2; go_ret; exact ⟨rfl, rfl⟩
  by_cases h6 : k = 6
  · subst h6; go_enter Tryz.func157, Tryz.ntmps157; go_wp2; go_ret; exact ⟨rfl, rfl⟩
  by_cases h7 : k = 7
  · subst h7; go_enter Tryz.func157, Tryz.ntmps157; go_wp2; go_ret; exact ⟨rfl, rfl⟩
  by_cases h8 : k = 8
  · subst h8; go_enter Tryz.func157, Tryz.ntmps157; go_wp2; go_ret; exact ⟨rfl, rfl⟩
  have e : Px.rnk k = 4 := by simp [Px.rnk, h4, h5, h6, h7, h8, h9, h10]
  rw [e]
  have g4 := ne_int h4; have g5 := ne_int h5; have g6 := ne_int h6; have g7 := ne_int h7; have g8 := ne_int h8; have g9 := ne_int h9; have g10 := ne_int h10
  clear e h4 h5 h6 h7 h8 h9 h10
  go_enter Tryz.func157, Tryz.ntmps157
  go_wp2
  go_ret
  exact ⟨rfl, rfl⟩

theorem sign_any (k : Int) (w : World) : Calls Tryz.prog 162 #[.int .i64 k] w fun e w' => e = .returned (.string (Px.ba (Px.sgn k))) ∧ w' = w := by
  by_cases h9 : k = 9
  · subst h9; go_enter Tryz.func162, Tryz.ntmps162; go_wp2; go_ret; exact ⟨rfl, rfl⟩
  by_cases h10 : k = 10
  · subst h10; go_enter Tryz.func162, Tryz.ntmps162; go_wp2; go_ret; exact ⟨rfl, rfl⟩
  by_cases h4 : k = 4
  · subst h4; go_enter Tryz.func162, Tryz.ntmps162; go_wp2; go_ret; exact ⟨rfl, rfl⟩
  by_cases h5 : k = 5
  · subst h5; go_enter Tryz.func162, Tryz.ntmps162; go_wp2; go_ret; exact ⟨rfl, rfl⟩
  by_cases h6 : k = 6
  · subst h6; go_enter Tryz.func162, Tryz.ntmps162; go_wp2; go_ret; exact ⟨rfl, rfl⟩
  by_cases h7 : k = 7
  · subst h7; go_enter Tryz.func162, Tryz.ntmps162; go_wp2; go_ret; exact ⟨rfl, rfl⟩
  by_cases h8 : k = 8
  · subst h8; go_enter Tryz.func162, Tryz.ntmps162; go_wp2; go_ret; exact ⟨rfl, rfl⟩
  have e : Px.ba (Px.sgn k) = ⟨#[]⟩ := by simp [Px.ba, Px.sgn, h4, h5, h6, h7, h8, h9, h10]
  rw [e]
  have g4 := ne_int h4; have g5 := ne_int h5; have g6 := ne_int h6; have g7 := ne_int h7; have g8 := ne_int h8; have g9 := ne_int h9; have g10 := ne_int h10
  clear e h4 h5 h6 h7 h8 h9 h10
  go_enter Tryz.func162, Tryz.ntmps162
  go_wp2
  go_ret
  exact ⟨rfl, rfl⟩

/-! ### The reader in memory -/
/-- w' is w grown, and turned in block R alone. -/
structure But (R : Nat) (w w' : World) : Prop where
  os : w'.os = w.os
  tape : w'.tape = w.tape
  output : w'.output = w.output
  size : w.heap.size ≤ w'.heap.size
  block : ∀ k, k < w.heap.size → k ≠ R → w'.heap[k]? = w.heap[k]?
theorem But.of {R : Nat} {w w' : World} (h : Kept w w') : But R w w' := ⟨h.os, h.tape, h.output, h.size, fun k hk _ => h.block k hk⟩
theorem But.refl (R : Nat) (w : World) : But R w w := But.of (Kept.refl w)
theorem But.then {R : Nat} {a b c : World} (h : But R a b) (k : But R b c) : But R a c :=
  ⟨k.os.trans h.os, k.tape.trans h.tape, k.output.trans h.output, Nat.le_trans h.size k.size, fun i hi hn => (k.block i (Nat.lt_of_lt_of_le hi h.size) hn).trans (h.block i hi hn)⟩
theorem But.al {R : Nat} {a w : World} (h : But R a w) (o : Obj) : But R a (w.alloc o) := h.then (But.of ((Kept.refl _).al o))
theorem But.dr {R : Nat} {a w : World} (h : But R a w) : But R a w.drew := h.then (But.of (Kept.refl _).dr)
theorem But.set {R : Nat} {a w : World} (h : But R a w) (o : Nat) (v : Value) : But R a (w.setCell ⟨R, o, none⟩ v) := by
  have hB : Below 0 w (w.setCell ⟨R, o, none⟩ v) := (Below.refl 0 w).setCell (Nat.zero_le _) v
  exact ⟨hB.os.trans h.os, hB.tape.trans h.tape, hB.output.trans h.output, Nat.le_trans h.size hB.size, fun i hi hn => (Below.heap_setCell w _ v i (fun e => hn e)).trans (h.block i hi hn)⟩
theorem But.cell {R : Nat} {w w' : World} (h : But R w w') {b o : Nat} {v : Value} (hc : w.cell? ⟨b, o, none⟩ = some v) (hn : b ≠ R) : w'.cell? ⟨b, o, none⟩ = some v := by
  rw [World.cell?_of_block (w := w) (a := ⟨b, o, none⟩) (h.block b (block_lt_of_cell hc) hn)]; exact hc
theorem But.kept {R : Nat} {w w' a : World} (h : But R w w') (k : Kept a w) (hR : a.heap.size ≤ R) : Kept a w' :=
  ⟨h.os.trans k.os, h.tape.trans k.tape, h.output.trans k.output, Nat.le_trans k.size h.size, fun i hi => (h.block i (Nat.lt_of_lt_of_le hi k.size) (by omega)).trans (k.block i hi)⟩

/-- A list of tokens, cell by cell. -/
structure Row (s : ByteArray) (ts : List Lx.Tk) (g : Nat) (w : World) : Prop where
  cells : ∀ j, j < ts.length * 4 → w.cell? ⟨g, j, none⟩ = (cellsOf s ts)[j]?

theorem told_good {s : ByteArray} {w0 w : World} {ts : List Lx.Tk} {v p e : Value} (h : Told s w0 (.good ts) v p e w) (hne : ts ≠ []) :
    ∃ g cap, v = .slice (some ⟨g, 0, none⟩) ts.length cap ∧ p = .complex .f64 0 0 ∧ e = .int .i64 0 ∧ w0.heap.size ≤ g ∧ g < w.heap.size ∧ Row s ts g w ∧ Kept w0 w := by
  obtain ⟨rfl, rfl, ho, hb⟩ := h
  have hl : 0 < ts.length := List.length_pos_iff.2 hne
  obtain ⟨g, cap, rfl, h1, h2⟩ := ho.form hl
  exact ⟨g, cap, rfl, rfl, rfl, h1, h2, ⟨fun j hj => ho.cellAt j hj⟩, hb⟩

theorem tk_at (s : ByteArray) (ts : List Lx.Tk) (i j : Nat) (hi : i < ts.length) (hj : j < 4) : (cellsOf s ts)[i * 4 + j]? = (tkCells s ts[i])[j]? := by
  induction ts generalizing i with
  | nil => simp at hi
  | cons t r ih =>
    have e : cellsOf s (t :: r) = tkCells s t ++ cellsOf s r := rfl
    rw [e]
    have hl : (tkCells s t).length = 4 := rfl
    cases i with
    | zero => rw [List.getElem?_append_left (by omega)]; simp
    | succ i =>
      rw [List.getElem?_append_right (by omega), hl, show (i + 1) * 4 + j - 4 = i * 4 + j by omega]
      exact ih i (by simpa using hi)

/-- The four cells of token i. -/
theorem Row.at {s : ByteArray} {ts : List Lx.Tk} {g : Nat} {w : World} (h : Row s ts g w) (i : Nat) (hi : i < ts.length) :
    w.cell? ⟨g, i * 4, none⟩ = some (.int .i64 (ts[i].kind : Int)) ∧ w.cell? ⟨g, i * 4 + 1, none⟩ = some (.string ⟨ts[i].text.toArray⟩) ∧ w.cell? ⟨g, i * 4 + 2, none⟩ = some (.int .i64 (ts[i].n : Int)) ∧ w.cell? ⟨g, i * 4 + 3, none⟩ = some (.complex .f64 (lineW s ts[i].at') (colW s ts[i].at')) := by
  refine ⟨?_, ?_, ?_, ?_⟩
  · have := tk_at s ts i 0 hi (by decide); rw [h.cells (i * 4) (by omega)]; exact this
  · have := tk_at s ts i 1 hi (by decide); rw [h.cells (i * 4 + 1) (by omega)]; exact this
  · have := tk_at s ts i 2 hi (by decide); rw [h.cells (i * 4 + 2) (by omega)]; exact this
  · have := tk_at s ts i 3 hi (by decide); rw [h.cells (i * 4 + 3) (by omega)]; exact this

/-- The reader: its tokens, where it is, how deep. -/
structure Rd (w : World) (R g cap : Nat) (s : ByteArray) (ts : List Lx.Tk) (a d : Nat) : Prop where
  c0 : w.cell? ⟨R, 0, none⟩ = some (.slice (some ⟨g, 0, none⟩) ts.length cap)
  c1 : w.cell? ⟨R, 1, none⟩ = some (.int .i64 (a : Int))
  c2 : w.cell? ⟨R, 2, none⟩ = some (.int .i64 (d : Int))
  z1 : w.frozen? ⟨R, 1, none⟩ = false
  z2 : w.frozen? ⟨R, 2, none⟩ = false
  row : Row s ts g w
  ne : g ≠ R
  lt : g < w.heap.size
  few : ts.length ≤ 6001
  le : a ≤ ts.length
  sh : d ≤ 8
theorem Rd.rlt {w : World} {R g cap : Nat} {s : ByteArray} {ts : List Lx.Tk} {a d : Nat} (h : Rd w R g cap s ts a d) : R < w.heap.size := block_lt_of_cell h.c0
theorem Rd.kept {w w' : World} {R g cap : Nat} {s : ByteArray} {ts : List Lx.Tk} {a d : Nat} (h : Rd w R g cap s ts a d) (k : Kept w w') : Rd w' R g cap s ts a d :=
  ⟨k.cellS h.c0, k.cellS h.c1, k.cellS h.c2, (k.frozen (p := ⟨R, 1, none⟩) h.rlt).trans h.z1, (k.frozen (p := ⟨R, 2, none⟩) h.rlt).trans h.z2, ⟨fun j hj => (k.cell (p := ⟨g, j, none⟩) h.lt).trans (h.row.cells j hj)⟩, h.ne, Nat.lt_of_lt_of_le h.lt k.size, h.few, h.le, h.sh⟩
theorem setCell_size (w : World) (a : Addr) (v : Value) : (w.setCell a v).heap.size = w.heap.size := by simp
theorem addr_ne' {B i j : Nat} (h : i ≠ j) : (⟨B, i, none⟩ : Addr) ≠ ⟨B, j, none⟩ := by intro e; exact h (Addr.mk.inj e).2.1
theorem addr_nb {B C i j : Nat} (h : B ≠ C) : (⟨B, i, none⟩ : Addr) ≠ ⟨C, j, none⟩ := by intro e; exact h (Addr.mk.inj e).1
/-- Stepped on. -/
theorem Rd.at' {w : World} {R g cap : Nat} {s : ByteArray} {ts : List Lx.Tk} {a d : Nat} (h : Rd w R g cap s ts a d) (b : Nat) (hb : b ≤ ts.length) : Rd (w.setCell ⟨R, 1, none⟩ (.int .i64 (b : Int))) R g cap s ts b d :=
  ⟨by rw [World.cell?_setCell_other w _ _ _ (addr_ne' (by decide))]; exact h.c0, World.cell?_setCell_same w _ _ h.c1, by rw [World.cell?_setCell_other w _ _ _ (addr_ne' (by decide))]; exact h.c2, by simp [h.z1], by simp [h.z2],
   ⟨fun j hj => by rw [World.cell?_setCell_other w _ _ _ (addr_nb (Ne.symm h.ne))]; exact h.row.cells j hj⟩, h.ne, by rw [setCell_size]; exact h.lt, h.few, hb, h.sh⟩
/-- Deeper. -/
theorem Rd.deep {w : World} {R g cap : Nat} {s : ByteArray} {ts : List Lx.Tk} {a d : Nat} (h : Rd w R g cap s ts a d) (b : Nat) (hb : b ≤ 8) : Rd (w.setCell ⟨R, 2, none⟩ (.int .i64 (b : Int))) R g cap s ts a b :=
  ⟨by rw [World.cell?_setCell_other w _ _ _ (addr_ne' (by decide))]; exact h.c0, by rw [World.cell?_setCell_other w _ _ _ (addr_ne' (by decide))]; exact h.c1, World.cell?_setCell_same w _ _ h.c2, by simp [h.z1], by simp [h.z2],
   ⟨fun j hj => by rw [World.cell?_setCell_other w _ _ _ (addr_nb (Ne.symm h.ne))]; exact h.row.cells j hj⟩, h.ne, by rw [setCell_size]; exact h.lt, h.few, h.le, hb⟩

/-- What is left of the tokens. -/
abbrev left (ts : List Lx.Tk) (a : Nat) : List Lx.Core := (ts.map Lx.Tk.core).drop a
theorem hd_in (ts : List Lx.Tk) (a : Nat) (h : a < ts.length) : Px.hd (left ts a) = (ts[a].kind, ts[a].text, ts[a].n) := by
  unfold left Px.hd
  rw [List.drop_eq_getElem_cons (by simpa using h)]
  simp [Lx.Tk.core]
theorem hd_out (ts : List Lx.Tk) (a : Nat) (h : ts.length ≤ a) : Px.hd (left ts a) = (4, [], 0) := by
  unfold left Px.hd
  rw [List.drop_eq_nil_of_le (by simpa using h)]
  rfl
theorem left_tail (ts : List Lx.Tk) (a : Nat) : (left ts a).tail = left ts (a + 1) := by
  unfold left; rw [List.tail_drop]
theorem left_len (ts : List Lx.Tk) (a : Nat) : (left ts a).length = ts.length - a := by simp [left]
theorem hd_lt (ts : List Lx.Tk) (a : Nat) (h : (Px.hd (left ts a)).1 ≠ 4) : a < ts.length := by
  rcases Nat.lt_or_ge a ts.length with h1 | h1
  · exact h1
  · rw [hd_out ts a h1] at h; exact absurd rfl h

set_option maxRecDepth 100000 in
set_option maxHeartbeats 1000000 in
theorem token_any {R g cap : Nat} {s : ByteArray} {ts : List Lx.Tk} {a d : Nat} {w : World} (h : Rd w R g cap s ts a d) {kd n : Nat} {tx : List UInt8} (ht : Px.hd (left ts a) = (kd, tx, n)) :
    Calls Tryz.prog 168 #[.pointer (some ⟨R, 0, none⟩)] w fun e w' => ∃ x y, e = .returned (.agg #[.int .i64 (kd : Int), .string ⟨tx.toArray⟩, .int .i64 (n : Int), .complex .f64 x y]) ∧ Kept w w' := by
  have hR := h.rlt
  have c0 := h.c0
  have c1 := h.c1
  have hf := h.few
  rcases Nat.lt_or_ge a ts.length with hlt | hge
  · rw [hd_in ts a hlt] at ht
    injection ht with e1 ht
    injection ht with e2 e3
    subst e1 e2 e3
    obtain ⟨d0, d1, d2, d3⟩ := h.row.at a hlt
    have hg := h.lt
    have hlt' : (a : Int) < (ts.length : Int) := by omega
    obtain ⟨n, hn⟩ : ∃ n, ts.length = n := ⟨_, rfl⟩
    have hnb : n ≤ 6001 := by omega
    generalize ts[a].kind = kd at *
    generalize ts[a].text = tx at *
    generalize ts[a].n = nn at *
    generalize lineW s ts[a].at' = X at *
    generalize colW s ts[a].at' = Y at *
    rw [hn] at hlt' c0
    clear h hlt hf hn
    go_enter Tryz.func168, Tryz.ntmps168
    go_wp2_with fail
    go_region
    go_wp2_with fail
    go_region
    go_wp2_with fail
    refine bodyPost_ret (v := .agg #[.int .i64 (kd : Int), .string ⟨tx.toArray⟩, .int .i64 (nn : Int), .complex .f64 X Y]) (by simp [results, Tryz.results168, go_sem]) rfl ⟨_, _, rfl, ((Kept.refl _).al _).dr.dr⟩
  · rw [hd_out ts a hge] at ht
    injection ht with e1 ht
    injection ht with e2 e3
    subst e1 e2 e3
    have hlt' : ¬ (a : Int) < (ts.length : Int) := by omega
    generalize ts.length = n at *
    clear h
    go_enter Tryz.func168, Tryz.ntmps168
    go_wp2_with fail
    go_region
    go_wp2_with fail
    refine bodyPost_ret (v := .agg #[.int .i64 4, .string ⟨#[]⟩, .int .i64 0, .complex .f64 0 0]) (by simp [results, Tryz.results168, go_sem]) rfl ⟨_, _, rfl, ((Kept.refl _).al _).dr⟩

theorem eq_text (tx : List UInt8) (x : ByteArray) : ((⟨tx.toArray⟩ : ByteArray).toList == x.toList) = (tx == x.data.toList) := by
  rw [toList_data, toList_data]

set_option maxRecDepth 100000 in
set_option maxHeartbeats 1000000 in
theorem isSign_any {R g cap : Nat} {s : ByteArray} {ts : List Lx.Tk} {a d : Nat} {w : World} (h : Rd w R g cap s ts a d) (x : ByteArray) (b : Bool) (hb : Px.isSg x.data.toList (Px.hd (left ts a)) = b) :
    Calls Tryz.prog 161 #[.pointer (some ⟨R, 0, none⟩), .string x] w fun e w' => e = .returned (.bool b) ∧ Kept w w' := by
  obtain ⟨kd, tx, n, ht⟩ : ∃ kd tx n, Px.hd (left ts a) = (kd, tx, n) := ⟨_, _, _, rfl⟩
  have HT : Hid (∀ W, Kept w W → Calls Tryz.prog 168 #[.pointer (some ⟨R, 0, none⟩)] W fun e w' => ∃ x y, e = .returned (.agg #[.int .i64 (kd : Int), .string ⟨tx.toArray⟩, .int .i64 (n : Int), .complex .f64 x y]) ∧ Kept W w') := fun W hW => token_any (h.kept hW) ht
  rw [ht] at hb
  have HB : Hid (Px.isSg x.data.toList (kd, tx, n) = b) := hb
  clear hb h ht
  by_cases h3 : kd = 3
  · subst h3
    go_enter Tryz.func161, Tryz.ntmps161
    go_wp2_with fail
    refine (HT.out _ (Kept.refl _)).mono ?_
    rintro e w1 ⟨X, Y, rfl, k1⟩
    have K1 : Hid (Kept w w1) := k1
    clear k1
    go_wp2_with fail
    go_ret
    refine ⟨ret_bool ?_, K1.out.al _⟩
    rw [← HB.out, toList_data]; simp [Px.isSg]
  · have h3' : ((kd : Int) == 3) = false := ne_int (by omega)
    have HF : Hid (b = false) := by
      show b = false
      rw [← HB.out]; simp [Px.isSg, h3]
    clear h3
    go_enter Tryz.func161, Tryz.ntmps161
    go_wp2_with fail
    refine (HT.out _ (Kept.refl _)).mono ?_
    rintro e w1 ⟨X, Y, rfl, k1⟩
    have K1 : Hid (Kept w w1) := k1
    clear k1
    go_wp2_with fail
    go_ret
    exact ⟨ret_bool HF.out.symm, K1.out.al _⟩

/-- The first operator from kind k on. -/
def opFrom (k of : Nat) (t : Lx.Core) : Option Nat := if t.1 = 3 then ((List.range' k (11 - k)).find? fun k => (Px.rnk (k : Nat) == of) && (t.2.1 == Px.sgn (k : Nat))) else none
theorem opFrom_four (of : Nat) (t : Lx.Core) : opFrom 4 of t = Px.opAt of t := rfl
theorem opFrom_end (of : Nat) (t : Lx.Core) : opFrom 11 of t = none := by unfold opFrom; split <;> rfl
theorem opFrom_step (k of : Nat) (t : Lx.Core) (h : k < 11) : opFrom k of t = if ((Px.rnk (k : Nat) == of) && Px.isSg (Px.sgn (k : Nat)) t) = true then some k else opFrom (k + 1) of t := by
  unfold opFrom Px.isSg
  by_cases h3 : t.1 = 3
  · rw [if_pos h3, if_pos h3]
    obtain ⟨m, hm⟩ : ∃ m, 11 - k = m + 1 := ⟨10 - k, by omega⟩
    have e2 : 11 - (k + 1) = m := by omega
    rw [hm, e2, List.range'_succ, List.find?_cons]
    simp only [h3, beq_self_eq_true, Bool.true_and]
    cases ((Px.rnk (k : Nat) == of) && (t.2.1 == Px.sgn (k : Nat))) <;> simp
  · simp [h3]

set_option maxRecDepth 100000 in
set_option maxHeartbeats 1000000 in
theorem operator_any {R g cap : Nat} {s : ByteArray} {ts : List Lx.Tk} {a d : Nat} {w : World} (h : Rd w R g cap s ts a d) (of : Nat) (hof : of ≤ 4) (o : Option Nat) (ho : Px.opAt of (Px.hd (left ts a)) = o) :
    Calls Tryz.prog 150 #[.pointer (some ⟨R, 0, none⟩), .int .i64 (of : Int)] w fun e w' => e = .returned (.tuple #[.int .i64 ((o.getD 0 : Nat) : Int), .bool o.isSome]) ∧ Kept w w' := by
  have HR : Hid (Rd w R g cap s ts a d) := h
  have HO : Hid (Px.opAt of (Px.hd (left ts a)) = o) := ho
  clear h ho
  go_enter Tryz.func150, Tryz.ntmps150
  go_wp2_with fail
  go_loopw [4] (fun i wr => ∃ k : Nat, i = .int .i64 (k : Int) ∧ k ≤ 11 ∧ Hid (Kept w wr) ∧ Hid (opFrom k of (Px.hd (left ts a)) = o)) (fun i _ => 11 - (intOf i).toNat)
  case atStart => exact ⟨4, rfl, by decide, Kept.refl _, HO.out⟩
  case round =>
    obtain ⟨k, rfl, hk, HB, HS⟩ := hrel
    by_cases hlt : k < 11
    · have g1 : (k : Int) ≤ 10 := by omega
      have RK : Hid (∀ W, Calls Tryz.prog 157 #[.int .i64 (k : Int)] W fun e w' => e = .returned (.int .i64 (Px.rnk (k : Nat) : Nat)) ∧ w' = W) := fun W => rank_any k W
      have SG : Hid (∀ W, Calls Tryz.prog 162 #[.int .i64 (k : Int)] W fun e w' => e = .returned (.string (Px.ba (Px.sgn (k : Nat)))) ∧ w' = W) := fun W => sign_any k W
      have IS : Hid (∀ W, Kept w W → Calls Tryz.prog 161 #[.pointer (some ⟨R, 0, none⟩), .string (Px.ba (Px.sgn (k : Nat)))] W fun e w' => e = .returned (.bool (Px.isSg (Px.sgn (k : Nat)) (Px.hd (left ts a)))) ∧ Kept W w') := fun W hW => isSign_any (HR.out.kept hW) _ _ rfl
      have ST := opFrom_step k of (Px.hd (left ts a)) hlt
      rw [HS.out] at ST
      have HST : Hid _ := ST
      clear ST
      generalize Px.ba (Px.sgn (k : Nat)) = SS at *
      generalize Px.isSg (Px.sgn (k : Nat)) (Px.hd (left ts a)) = bb at *
      generalize Px.rnk (k : Nat) = rr at *
      by_cases hr : rr = of
      · subst hr
        go_wp2_with fail
        refine (RK.out _).mono ?_
        rintro e w1 ⟨rfl, hw1⟩
        obtain rfl : wr = w1 := hw1.symm
        clear hw1
        go_wp2_with fail
        refine (SG.out _).mono ?_
        rintro e w1 ⟨rfl, hw1⟩
        obtain rfl : wr = w1 := hw1.symm
        clear hw1
        go_wp2_with fail
        refine (IS.out _ HB.out).mono ?_
        rintro e w1 ⟨rfl, k1⟩
        have HB1 : Hid (Kept w w1) := HB.out.then k1
        clear k1
        cases bb with
        | true =>
          have HO' : Hid (o = some k) := by
            show o = some k
            have := HST.out; simpa using this
          go_wp2_with fail
          go_ret2
          refine ⟨?_, HB1.out⟩
          rw [HO'.out]; rfl
        | false =>
          have HO' : Hid (opFrom (k + 1) rr (Px.hd (left ts a)) = o) := by
            have := HST.out; simp at this; exact this.symm
          go_wp2_with fail
          go_roundw
          case rel => exact ⟨k + 1, by go_num, by omega, HB1, HO'⟩
          case measure => simp [intOf]; omega
      · have hr' : ((rr : Int) == (of : Int)) = false := ne_int (by omega)
        have HO' : Hid (opFrom (k + 1) of (Px.hd (left ts a)) = o) := by
          have := HST.out; simp [hr] at this; exact this.symm
        go_wp2_with fail
        refine (RK.out _).mono ?_
        rintro e w1 ⟨rfl, hw1⟩
        obtain rfl : wr = w1 := hw1.symm
        clear hw1
        go_wp2_with fail
        go_roundw
        case rel => exact ⟨k + 1, by go_num, by omega, HB, HO'⟩
        case measure => simp [intOf]; omega
    · have g1 : ¬ (k : Int) ≤ 10 := by omega
      have hk11 : k = 11 := by omega
      have HN : Hid (o = none) := by
        have := HS.out; rw [hk11, opFrom_end] at this; exact this.symm
      go_wp2_with fail
      go_ret2
      refine ⟨?_, HB.out⟩
      rw [HN.out]; rfl
end Go.Proofs.YtkobdephobaopaaGreatDoor

namespace Go.Proofs.YtkobdephobaopaaGreatDoor
open Go.RowKit
attribute [local go_sem] run_store_complex

abbrev oe (o : Option Ex) : Ex := o.getD ex0

/-- What a method leaves. -/
def Red (R g cap : Nat) (s : ByteArray) (ts : List Lx.Tk) (d : Nat) (w : World) (o : Option Ex) (m : List Lx.Core) (e : Ending) (w' : World) : Prop :=
  ∃ (x : Ex) (b : Bool) (a : Option Addr) (n q : Nat), e = .returned (.tuple #[.agg #[.int .i64 x.kind, .int .i64 x.n, .string x.name, .slice a n q], .bool b]) ∧ x = oe o ∧ b = o.isSome ∧ ExsIn w' w.heap.size w'.heap.size x.of (.slice a n q) ∧ But R w w' ∧ Rd w' R g cap s ts (ts.length - m.length) d

def PM (F : Nat) (d : Nat) (part : Px.P) : Prop := ∀ (R g cap : Nat) (s : ByteArray) (ts : List Lx.Tk) (a : Nat) (w : World), Rd w R g cap s ts a d → ∀ o m, part (left ts a) = (o, m) →
  Calls Tryz.prog F #[.pointer (some ⟨R, 0, none⟩)] w fun e w' => Red R g cap s ts d w o m e w'

theorem suf_left {ts : List Lx.Tk} {a : Nat} {m : List Lx.Core} (h : m <:+ left ts a) : left ts (ts.length - m.length) = m := by
  have h2 : m <:+ ts.map Lx.Tk.core := h.trans (List.drop_suffix _ _)
  obtain ⟨p, e⟩ := h2
  have hl : p.length + m.length = ts.length := by rw [← List.length_append, e, List.length_map]
  unfold left
  rw [← e, show ts.length - m.length = p.length by omega, List.drop_left]
theorem suf_len {ts : List Lx.Tk} {a : Nat} {m : List Lx.Core} (h : m <:+ left ts a) : m.length ≤ ts.length - a := by
  have := h.length_le
  rwa [left_len] at this

theorem ExsD.but {R : Nat} {D : Nat → Prop} {w w' : World} {l : List Ex} {v : Value} (h : ExsD w D l v) (b : But R w w') (hD : ∀ k, D k → k < w.heap.size ∧ k ≠ R) : ExsD w' D l v :=
  h.stays fun k hk => b.block k (hD k hk).1 (hD k hk).2

def atOf (w : World) (R : Nat) : Nat := match w.cell? ⟨R, 1, none⟩ with
  | some (.int .i64 x) => x.toNat
  | _ => 0
theorem Rd.atOf {w : World} {R g cap : Nat} {s : ByteArray} {ts : List Lx.Tk} {a d : Nat} (h : Rd w R g cap s ts a d) : atOf w R = a := by
  unfold Proofs.YtkobdephobaopaaGreatDoor.atOf; rw [h.c1]; simp

theorem But.frozen {R : Nat} {w w' : World} (h : But R w w') {b : Nat} (hb : b < w.heap.size) (hn : b ≠ R) (o : Nat) : w'.frozen? ⟨b, o, none⟩ = w.frozen? ⟨b, o, none⟩ :=
  World.frozen?_of_block (w := w) (a := ⟨b, o, none⟩) (h.block b hb hn)

/-- A block that holds one expression. -/
structure Bx (w : World) (B : Nat) (k n : Int) (s : ByteArray) (v : Value) : Prop where
  c0 : w.cell? ⟨B, 0, none⟩ = some (.int .i64 k)
  c1 : w.cell? ⟨B, 1, none⟩ = some (.int .i64 n)
  c2 : w.cell? ⟨B, 2, none⟩ = some (.string s)
  c3 : w.cell? ⟨B, 3, none⟩ = some v
  zf : ∀ j, w.frozen? ⟨B, j, none⟩ = false
theorem Bx.new (w : World) (k n : Int) (s : ByteArray) (v : Value) : Bx (w.alloc (.cells #[.int .i64 k, .int .i64 n, .string s, v] 44)) w.heap.size k n s v := by
  constructor <;> simp
theorem Bx.lt {w : World} {B : Nat} {k n : Int} {s : ByteArray} {v : Value} (h : Bx w B k n s v) : B < w.heap.size := block_lt_of_cell h.c0
theorem Bx.but {R : Nat} {w w' : World} {B : Nat} {k n : Int} {s : ByteArray} {v : Value} (h : Bx w B k n s v) (b : But R w w') (hn : B ≠ R) : Bx w' B k n s v :=
  ⟨b.cell h.c0 hn, b.cell h.c1 hn, b.cell h.c2 hn, b.cell h.c3 hn, fun j => (b.frozen h.lt hn j).trans (h.zf j)⟩
theorem Bx.kept {w w' : World} {B : Nat} {k n : Int} {s : ByteArray} {v : Value} (h : Bx w B k n s v) (b : Kept w w') : Bx w' B k n s v :=
  ⟨b.cellS h.c0, b.cellS h.c1, b.cellS h.c2, b.cellS h.c3, fun j => (b.frozen (p := ⟨B, j, none⟩) h.lt).trans (h.zf j)⟩
theorem Bx.there {w : World} {B : Nat} {k n : Int} {s : ByteArray} {v : Value} (h : Bx w B k n s v) : w.there B 0 4 := there_of 4 (fun j hj => by
      match j, hj with
      | 0, _ => exact ⟨_, h.c0⟩
      | 1, _ => exact ⟨_, h.c1⟩
      | 2, _ => exact ⟨_, h.c2⟩
      | 3, _ => exact ⟨_, h.c3⟩) h.zf
theorem Bx.set {w : World} {B : Nat} {k n : Int} {s : ByteArray} {v : Value} (h : Bx w B k n s v) (k' n' : Int) (s' : ByteArray) (v' : Value) : Bx (w.setCells B 0 [.int .i64 k', .int .i64 n', .string s', v']) B k' n' s' v' := by
  have h1 := World.rangeAt_setCells_same w B 0 [.int .i64 k', .int .i64 n', .string s', v'] h.there
  refine ⟨h1 0 _ rfl, h1 1 _ rfl, h1 2 _ rfl, h1 3 _ rfl, fun j => ?_⟩
  show ((((w.setCell ⟨B, 0, none⟩ (.int .i64 k')).setCell ⟨B, 1, none⟩ (.int .i64 n')).setCell ⟨B, 2, none⟩ (.string s')).setCell ⟨B, 3, none⟩ v').frozen? ⟨B, j, none⟩ = false
  simp [h.zf j]
theorem esizeEx : (Tryz.prog.info? 44).map (·.size) = some 4 := by kernel_rfl
theorem Bx.range {w : World} {B : Nat} {k n : Int} {s : ByteArray} {v : Value} (h : Bx w B k n s v) : w.rangeAt B 0 [.int .i64 k, .int .i64 n, .string s, v] := fun j u hu => by
  match j, hu with
  | 0, hu => cases hu; exact h.c0
  | 1, hu => cases hu; exact h.c1
  | 2, hu => cases hu; exact h.c2
  | 3, hu => cases hu; exact h.c3
theorem ret_red {fn : Func} {p u : Tmp} (h : fn.results = #[.cell p 44, .tmp u]) (tmps : Array Value) {w : World} {B : Nat} {k n : Int} {s : ByteArray} {v : Value} {b : Bool} (hp : tmps.getD p undef = .pointer (some ⟨B, 0, none⟩)) (hu : tmps.getD u undef = .bool b) (hB : Bx w B k n s v) :
    (results fn tmps).run Tryz.prog w = .ok (.tuple #[.agg #[.int .i64 k, .int .i64 n, .string s, v], .bool b]) w := by
  rw [results_cell_tmp h, hp, hu]
  have := run_loadVar_mid (P := Tryz.prog) w B 0 44 _ _ hB.range Tryz.underlying44 rfl esizeEx
  simp [asAddr, Result.andThen, this]
/-- A write of one's own. -/
theorem But.sets {R : Nat} {a w : World} (h : But R a w) {B : Nat} (hB : a.heap.size ≤ B) (o : Nat) (cs : List Value) : But R a (w.setCells B o cs) := by
  have hb : Below a.heap.size w (w.setCells B o cs) := Below.setCells (Below.refl _ w) hB _ _
  exact ⟨hb.os.trans h.os, hb.tape.trans h.tape, hb.output.trans h.output, Nat.le_trans h.size hb.size, fun i hi hn => (hb.block i hi).trans (h.block i hi hn)⟩
theorem Rd.sets {w : World} {R g cap : Nat} {s : ByteArray} {ts : List Lx.Tk} {a d : Nat} (h : Rd w R g cap s ts a d) {B : Nat} (hR : B ≠ R) (hg : B ≠ g) (o : Nat) (cs : List Value) : Rd (w.setCells B o cs) R g cap s ts a d := by
  have e : ∀ i, i ≠ B → (w.setCells B o cs).heap[i]? = w.heap[i]? := fun i hi => heap_setCells _ _ _ _ i hi
  have c : ∀ b j, b ≠ B → (w.setCells B o cs).cell? ⟨b, j, none⟩ = w.cell? ⟨b, j, none⟩ := fun b j hb => World.cell?_of_block (w := w) (a := ⟨b, j, none⟩) (e b hb)
  have f : ∀ b j, b ≠ B → (w.setCells B o cs).frozen? ⟨b, j, none⟩ = w.frozen? ⟨b, j, none⟩ := fun b j hb => World.frozen?_of_block (w := w) (a := ⟨b, j, none⟩) (e b hb)
  exact ⟨(c R 0 (Ne.symm hR)).trans h.c0, (c R 1 (Ne.symm hR)).trans h.c1, (c R 2 (Ne.symm hR)).trans h.c2, (f R 1 (Ne.symm hR)).trans h.z1, (f R 2 (Ne.symm hR)).trans h.z2, ⟨fun j hj => (c g j (Ne.symm hg)).trans (h.row.cells j hj)⟩, h.ne, by rw [size_setCells]; exact h.lt, h.few, h.le, h.sh⟩

/-- The end of a method: its answer is stored, and told. -/
theorem red_end {fn : Func} {p u : Tmp} (hf : fn.results = #[.cell p 44, .tmp u]) {tmps : Array Value} {w wr : World} {R g cap : Nat} {s : ByteArray} {ts : List Lx.Tk} {d b : Nat} {o : Option Ex} {m : List Lx.Core} {x : Ex} {ok : Bool} {a : Option Addr} {n q : Nat} {k0 n0 : Int} {s0 : ByteArray} {v0 : Value}
    (hp : tmps.getD p undef = .pointer (some ⟨w.heap.size, 0, none⟩)) (hu : tmps.getD u undef = .bool ok) (hz : Bx wr w.heap.size k0 n0 s0 v0) (hT : ExsD wr (fun k => w.heap.size < k ∧ k < wr.heap.size) x.of (.slice a n q)) (hB : But R w wr) (hR : Rd wr R g cap s ts b d) (hRw : R < w.heap.size) (hgw : g < w.heap.size)
    (hx : x = oe o) (hb : ok = o.isSome) (hm : b = ts.length - m.length) :
    bodyPost Tryz.prog fn (fun e w' => Red R g cap s ts d w o m e w') .ret { tmps := tmps, defers := [] } ((((wr.setCell ⟨w.heap.size, 0, none⟩ (.int .i64 x.kind)).setCell ⟨w.heap.size, 1, none⟩ (.int .i64 x.n)).setCell ⟨w.heap.size, 2, none⟩ (.string x.name)).setCell ⟨w.heap.size, 3, none⟩ (.slice a n q)) := by
  have hw : ((((wr.setCell ⟨w.heap.size, 0, none⟩ (.int .i64 x.kind)).setCell ⟨w.heap.size, 1, none⟩ (.int .i64 x.n)).setCell ⟨w.heap.size, 2, none⟩ (.string x.name)).setCell ⟨w.heap.size, 3, none⟩ (.slice a n q)) = wr.setCells w.heap.size 0 [.int .i64 x.kind, .int .i64 x.n, .string x.name, .slice a n q] := rfl
  rw [hw]
  have hq := hz.set x.kind x.n x.name (.slice a n q)
  have hsz := size_setCells w.heap.size [.int .i64 x.kind, .int .i64 x.n, .string x.name, .slice a n q] 0 wr
  refine bodyPost_ret (ret_red hf _ hp hu hq) rfl ⟨x, ok, a, n, q, rfl, hx, hb, ?_, hB.sets (Nat.le_refl _) _ _, ?_⟩
  · refine (hT.stays fun k hk => heap_setCells _ _ _ _ k (by have := hk.1; omega)).mono fun k hk => ⟨by have := hk.1; omega, by have := hk.2; omega⟩
  · rw [← hm]; exact hR.sets (by omega) (by omega) _ _

/-- Where the parts of row's expression may lie. -/
abbrev Dn (w wr : World) (B : Nat) : Nat → Prop := fun k => w.heap.size < k ∧ k < wr.heap.size ∧ k ≠ B
/-- What holds ahead of each round of row. -/
def RI (of : Nat) (part : Px.P) (R g cap : Nat) (s : ByteArray) (ts : List Lx.Tk) (d : Nat) (w W0 : World) (B : Nat) (o : Option Ex) (m : List Lx.Core) (v : Value) (wr : World) : Prop :=
  ∃ (ok : Bool) (E : Ex) (a' : Option Addr) (n' q' b : Nat), v = .bool ok ∧ Bx wr B E.kind E.n E.name (.slice a' n' q') ∧ ExsD wr (Dn w wr B) E.of (.slice a' n' q') ∧ But R W0 wr ∧ Rd wr R g cap s ts b d ∧
    (ok = true → ∃ f, ts.length - b ≤ f ∧ Px.more of part f E (left ts b) = (o, m)) ∧ (ok = false → o = none ∧ b = ts.length - m.length)

/-- What a round of row leaves. -/
theorem row_fin {R g cap : Nat} {s : ByteArray} {ts : List Lx.Tk} {d b : Nat} {w W0 wr w4 : World} {B1 B2 : Nat} {E x2 : Ex} {a' a2 : Option Addr} {n' q' n2 q2 : Nat} {kk : Int} (hR : R < w.heap.size) (hg : g < w.heap.size) (hwB : w.heap.size < B1) (h12 : B1 < wr.heap.size) (h2 : wr.heap.size ≤ B2) (hW0 : W0.heap.size ≤ B1)
    (hE : Bx w4 B1 E.kind E.n E.name (.slice a' n' q')) (hZ : Bx w4 B2 0 0 ⟨#[]⟩ (.slice none 0 0)) (hT : ExsD wr (Dn w wr B1) E.of (.slice a' n' q')) (hU : ExsIn w4 (B2 + 1) w4.heap.size x2.of (.slice a2 n2 q2)) (hB0 : But R W0 wr) (hB : But R wr w4) (hD : Rd w4 R g cap s ts b d) :
    let Wf := ((w4.setCells B2 0 [.int .i64 x2.kind, .int .i64 x2.n, .string x2.name, .slice a2 n2 q2]).setCells B1 0 [.int .i64 kk, .int .i64 0, .string ⟨#[]⟩, .slice (some ⟨w4.heap.size, 0, none⟩) 2 2]).alloc (.cells #[.int .i64 E.kind, .int .i64 E.n, .string E.name, .slice a' n' q', .int .i64 x2.kind, .int .i64 x2.n, .string x2.name, .slice a2 n2 q2] 44)
    Bx Wf B1 kk 0 ⟨#[]⟩ (.slice (some ⟨w4.heap.size, 0, none⟩) 2 2) ∧ ExsD Wf (Dn w Wf B1) [E, x2] (.slice (some ⟨w4.heap.size, 0, none⟩) 2 2) ∧ But R W0 Wf ∧ Rd Wf R g cap s ts b d := by
  intro Wf
  have l1 := hE.lt
  have l2 := hZ.lt
  obtain ⟨Wa, hWa⟩ : ∃ Wa, w4.setCells B2 0 [.int .i64 x2.kind, .int .i64 x2.n, .string x2.name, .slice a2 n2 q2] = Wa := ⟨_, rfl⟩
  obtain ⟨Wb, hWb⟩ : ∃ Wb, Wa.setCells B1 0 [.int .i64 kk, .int .i64 0, .string ⟨#[]⟩, .slice (some ⟨w4.heap.size, 0, none⟩) 2 2] = Wb := ⟨_, rfl⟩
  have hWf : Wf = Wb.alloc (.cells #[.int .i64 E.kind, .int .i64 E.n, .string E.name, .slice a' n' q', .int .i64 x2.kind, .int .i64 x2.n, .string x2.name, .slice a2 n2 q2] 44) := by rw [← hWb, ← hWa]
  have sa : Wa.heap.size = w4.heap.size := by rw [← hWa]; exact size_setCells ..
  have sb : Wb.heap.size = w4.heap.size := by rw [← hWb, size_setCells]; exact sa
  have sf : Wf.heap.size = w4.heap.size + 1 := by rw [hWf]; simp [sb]
  have ha : ∀ i, i ≠ B2 → Wa.heap[i]? = w4.heap[i]? := fun i hi => by rw [← hWa]; exact heap_setCells _ _ _ _ i hi
  have hb : ∀ i, i ≠ B1 → Wb.heap[i]? = Wa.heap[i]? := fun i hi => by rw [← hWb]; exact heap_setCells _ _ _ _ i hi
  have hff : ∀ i, i < w4.heap.size → Wf.heap[i]? = Wb.heap[i]? := fun i hi => by rw [hWf]; exact Below.heap_alloc _ _ _ (by omega)
  have hall : ∀ i, i < w4.heap.size → i ≠ B1 → i ≠ B2 → Wf.heap[i]? = w4.heap[i]? := fun i h1 h2 h3 => (hff i h1).trans ((hb i h2).trans (ha i h3))
  have hEa : Bx Wa B1 E.kind E.n E.name (.slice a' n' q') := by
    have e := ha B1 (by omega)
    exact ⟨by rw [World.cell?_of_block (w := w4) (a := ⟨B1, 0, none⟩) e]; exact hE.c0, by rw [World.cell?_of_block (w := w4) (a := ⟨B1, 1, none⟩) e]; exact hE.c1, by rw [World.cell?_of_block (w := w4) (a := ⟨B1, 2, none⟩) e]; exact hE.c2, by rw [World.cell?_of_block (w := w4) (a := ⟨B1, 3, none⟩) e]; exact hE.c3,
      fun j => by rw [World.frozen?_of_block (w := w4) (a := ⟨B1, j, none⟩) e]; exact hE.zf j⟩
  have hEb := hEa.set kk 0 ⟨#[]⟩ (.slice (some ⟨w4.heap.size, 0, none⟩) 2 2)
  rw [hWb] at hEb
  have hal : Kept Wb Wf := by rw [hWf]; exact (Kept.refl _).al _
  have hz4 := hB.size
  have hz0 := hB0.size
  refine ⟨hEb.kept hal, ?_, ?_, ?_⟩
  · refine ExsD.two (v := .slice a' n' q') (u := .slice a2 n2 q2) ⟨by omega, by omega, by omega⟩ ?_ ?_ ?_
    · rw [hWf, ← sb]; exact heap_alloc_new _ _
    · refine ((hT.stays fun k hk => hB.block k hk.2.1 (by have := hk.1; omega)).stays fun k hk => hall k (by have := hk.2.1; omega) hk.2.2 (by have := hk.2.1; omega)).mono fun k hk => ⟨hk.1, by have := hk.2.1; omega, hk.2.2⟩
    · refine (hU.stays fun k hk => hall k hk.2 (by have := hk.1; omega) (by have := hk.1; omega)).mono fun k hk => ⟨by have := hk.1; omega, by have := hk.2; omega, by have := hk.1; omega⟩
  · rw [hWf, ← hWb, ← hWa]
    exact (((hB0.then hB).sets (by omega) _ _).sets hW0 _ _).al _
  · rw [hWf, ← hWb, ← hWa]
    exact ((hD.sets (by omega) (by omega) _ _).sets (by omega) (by omega) _ _).kept ((Kept.refl _).al _)

set_option maxRecDepth 100000 in
set_option maxHeartbeats 2000000 in
theorem row_any (F : Nat) (d of : Nat) (part : Px.P) (hF : ∀ args w, (callFunc F args).run Tryz.prog w = .ok (.enter F args) w) (hs : Px.Suf part) (H : PM F d part) (hof : of ≤ 4) {R g cap : Nat} {s : ByteArray} {ts : List Lx.Tk} {a : Nat} {w : World} (h : Rd w R g cap s ts a d) (o : Option Ex) (m : List Lx.Core) (hp : Px.row of part (left ts a) = (o, m)) :
    Calls Tryz.prog 159 #[.pointer (some ⟨R, 0, none⟩), .int .i64 (of : Int), .func (.func F) #[.pointer (some ⟨R, 0, none⟩)] #[]] w fun e w' => Red R g cap s ts d w o m e w' := by
  have HR : Hid (Rd w R g cap s ts a d) := h
  have HH : Hid (PM F d part) := H
  have HP : Hid (Px.row of part (left ts a) = (o, m)) := hp
  clear h H hp
  go_enter Tryz.func159, Tryz.ntmps159
  go_wp2_with fail
  obtain ⟨o1, m1, hp1⟩ : ∃ o1 m1, part (left ts a) = (o1, m1) := ⟨_, _, rfl⟩
  have HP1 : Hid (part (left ts a) = (o1, m1)) := hp1
  refine (HH.out R g cap s ts a _ (HR.out.kept ((Kept.refl _).al _)) _ _ hp1).mono ?_
  clear hp1
  rintro e w1 ⟨x1, b1, a1, n1, q1, rfl, hx, hb, hT, hB, hRd⟩
  have hRs := HR.out.rlt
  have hne : w.heap.size ≠ R := by omega
  obtain ⟨W0, hW0⟩ : ∃ W0, w.alloc (.cells #[.int .i64 0, .int .i64 0, .string ⟨#[]⟩, .slice none 0 0] 44) = W0 := ⟨_, rfl⟩
  have hz : Bx W0 w.heap.size 0 0 ⟨#[]⟩ (.slice none 0 0) := by rw [← hW0]; exact Bx.new ..
  have HZ : Hid (Kept w W0 ∧ W0.heap.size = w.heap.size + 1) := by rw [← hW0]; exact ⟨(Kept.refl _).al _, by simp⟩
  rw [hW0] at hT hB
  clear hW0
  have HX : Hid (x1 = oe o1 ∧ b1 = o1.isSome) := ⟨hx, hb⟩
  have HT : Hid (ExsIn w1 W0.heap.size w1.heap.size x1.of (.slice a1 n1 q1)) := hT
  have HB : Hid (But R W0 w1) := hB
  have HD : Hid (Rd w1 R g cap s ts (ts.length - m1.length) d) := hRd
  obtain ⟨y0, y1, y2, y3, yf⟩ := hz.but hB hne
  have hlt : w.heap.size < w1.heap.size := block_lt_of_cell y0
  have HZ0 : Hid (Bx W0 w.heap.size 0 0 ⟨#[]⟩ (.slice none 0 0)) := hz
  clear hx hb hT hB hRd hz
  go_wp2_with fail
  go_loopw [9] (RI of part R g cap s ts d w W0 w1.heap.size o m) (fun _ wr => 6002 - atOf wr R)
  case atStart =>
    have hrow := HP.out
    have e1 := HP1.out
    have hs1 := hs (left ts a)
    rw [e1] at hs1
    unfold Px.row at hrow
    rw [e1] at hrow
    obtain ⟨hxx, hbb⟩ := HX.out
    refine ⟨b1, x1, a1, n1, q1, ts.length - m1.length, rfl, Bx.new .., ?_, HB.out.al _, HD.out.kept ((Kept.refl _).al _), ?_, ?_⟩
    · have hz := HZ.out.2
      refine (HT.out.stays (((Kept.refl w1).al _).stays (Nat.le_refl _))).mono fun k hk => ⟨by have := hk.1; omega, by have := hk.2; simp; omega, by have := hk.2; omega⟩
    · intro hok
      rw [hok] at hbb
      cases o1 with
      | none => cases hbb
      | some E =>
        refine ⟨m1.length, by omega, ?_⟩
        rw [suf_left hs1, hxx]
        exact hrow
    · intro hok
      rw [hok] at hbb
      cases o1 with
      | some E => cases hbb
      | none =>
        simp only [Prod.mk.injEq] at hrow
        obtain ⟨h1, h2⟩ := hrow
        exact ⟨h1.symm, by rw [h2]⟩
  case round =>
    clear y0 y1 y2 y3 yf
    obtain ⟨ok, E, a', n', q', b, rfl, hE, hET, hBut, hRd, hT1, hT2⟩ := hrel
    have hne8 : w1.heap.size ≠ R := by omega
    have HZr : Hid (Bx wr w.heap.size 0 0 ⟨#[]⟩ (.slice none 0 0)) := HZ0.out.but hBut hne
    have hw0 := HZr.out.lt
    have hB8 := hE.lt
    obtain ⟨y0, y1, y2, y3, yf⟩ := HZr.out
    obtain ⟨c0, c1, c2, c3, cf⟩ := hE
    have HE : Hid (Bx wr w1.heap.size E.kind E.n E.name (.slice a' n' q')) := ⟨c0, c1, c2, c3, cf⟩
    have HET : Hid (ExsD wr (Dn w wr w1.heap.size) E.of (.slice a' n' q')) := hET
    have HBr : Hid (But R W0 wr) := hBut
    have HDr : Hid (Rd wr R g cap s ts b d) := hRd
    have HT1 : Hid (ok = true → ∃ f, ts.length - b ≤ f ∧ Px.more of part f E (left ts b) = (o, m)) := hT1
    have HT2 : Hid (ok = false → o = none ∧ b = ts.length - m.length) := hT2
    clear hET hBut hRd hT1 hT2
    cases ok with
    | false =>
      go_wp2_with fail
      obtain ⟨hn1, hn2⟩ := HT2.out (by decide)
      exact red_end Tryz.results159 (x := ex0) (ok := false) rfl rfl HZr.out (ExsD.nil _ _) ((But.of HZ.out.1).then HBr.out) HDr.out hRs HR.out.lt (by rw [hn1]; rfl) (by rw [hn1]; rfl) hn2
    | true =>
      obtain ⟨f, hf1, hf2⟩ := HT1.out rfl
      have HF : Hid (ts.length - b ≤ f ∧ Px.more of part f E (left ts b) = (o, m)) := ⟨hf1, hf2⟩
      clear hf1 hf2
      have HO : Hid (∀ ok, Px.opAt of (Px.hd (left ts b)) = ok → ∀ W, Kept wr W → Calls Tryz.prog 150 #[.pointer (some ⟨R, 0, none⟩), .int .i64 (of : Int)] W fun e w' => e = .returned (.tuple #[.int .i64 ((ok.getD 0 : Nat) : Int), .bool ok.isSome]) ∧ Kept W w') := fun ok hok W hW => operator_any (HDr.out.kept hW) of hof ok hok
      cases hop : Px.opAt of (Px.hd (left ts b)) with
      | none =>
        have HOP : Hid (Px.opAt of (Px.hd (left ts b)) = none) := hop
        clear hop
        go_wp2_with fail
        refine (HO.out _ HOP.out _ (Kept.refl _)).mono ?_
        rintro e w2 ⟨rfl, k2⟩
        have K2 : Hid (Kept wr w2) := k2
        have hw02 : w.heap.size < w2.heap.size := by have := k2.size; omega
        have hB82 : w1.heap.size < w2.heap.size := by have := k2.size; omega
        obtain ⟨y0', y1', y2', y3', yf'⟩ := HZr.out.kept k2
        obtain ⟨c0', c1', c2', c3', cf'⟩ := HE.out.kept k2
        clear k2 y0 y1 y2 y3 yf c0 c1 c2 c3 cf
        go_wp2_with fail
        obtain ⟨hf1, hf2⟩ := HF.out
        rw [Px.more_none HOP.out] at hf2
        simp only [Prod.mk.injEq] at hf2
        obtain ⟨rfl, rfl⟩ := hf2
        refine red_end Tryz.results159 (x := E) (ok := true) rfl rfl (HZr.out.kept K2.out) ?_ (((But.of HZ.out.1).then HBr.out).then (But.of K2.out)) (HDr.out.kept K2.out) hRs HR.out.lt rfl rfl ?_
        · refine (HET.out.stays fun k hk => K2.out.block k hk.2.1).mono fun k hk => ⟨hk.1, Nat.lt_of_lt_of_le hk.2.1 K2.out.size⟩
        · have := HDr.out.le; rw [left_len]; omega
      | some k =>
        have HOP : Hid (Px.opAt of (Px.hd (left ts b)) = some k) := hop
        have hblt : b < ts.length := hd_lt ts b (by rw [Px.opAt_hd hop]; decide)
        have hfew := HDr.out.few
        clear hop
        go_wp2_with fail
        refine (HO.out _ HOP.out _ (Kept.refl _)).mono ?_
        rintro e w2 ⟨rfl, k2⟩
        have K2 : Hid (Kept wr w2) := k2
        have hw02 : w.heap.size < w2.heap.size := by have := k2.size; omega
        have hB82 : w1.heap.size < w2.heap.size := by have := k2.size; omega
        have HD2 : Hid (Rd w2 R g cap s ts b d) := HDr.out.kept k2
        obtain ⟨r0, r1, r2, rz1, rz2, -⟩ := HD2.out
        have hR2 := HD2.out.rlt
        clear k2 y0 y1 y2 y3 yf c0 c1 c2 c3 cf
        go_wp2_with fail
        obtain ⟨o2, m2, hp2⟩ : ∃ o2 m2, part (left ts (b + 1)) = (o2, m2) := ⟨_, _, rfl⟩
        have HP2 : Hid (part (left ts (b + 1)) = (o2, m2)) := hp2
        have hD3 : Rd ((w2.setCell ⟨R, 1, none⟩ (.int .i64 ((b : Int) + 1))).alloc (.cells #[.int .i64 0, .int .i64 0, .string ⟨#[]⟩, .slice none 0 0] 44)) R g cap s ts (b + 1) d := (HD2.out.at' (b + 1) hblt).kept ((Kept.refl _).al _)
        refine (HH.out R g cap s ts (b + 1) _ hD3 _ _ hp2).mono ?_
        have hz3 : Bx ((w2.setCell ⟨R, 1, none⟩ (.int .i64 ((b : Int) + 1))).alloc (.cells #[.int .i64 0, .int .i64 0, .string ⟨#[]⟩, .slice none 0 0] 44)) w2.heap.size 0 0 ⟨#[]⟩ (.slice none 0 0) := by
          have := Bx.new (w2.setCell ⟨R, 1, none⟩ (.int .i64 ((b : Int) + 1))) 0 0 ⟨#[]⟩ (.slice none 0 0); rwa [setCell_size] at this
        have hB3 : But R w2 ((w2.setCell ⟨R, 1, none⟩ (.int .i64 ((b : Int) + 1))).alloc (.cells #[.int .i64 0, .int .i64 0, .string ⟨#[]⟩, .slice none 0 0] 44)) := ((But.refl R w2).set 1 _).al _
        have hs3 : ((w2.setCell ⟨R, 1, none⟩ (.int .i64 ((b : Int) + 1))).alloc (.cells #[.int .i64 0, .int .i64 0, .string ⟨#[]⟩, .slice none 0 0] 44)).heap.size = w2.heap.size + 1 := by simp
        generalize ((w2.setCell ⟨R, 1, none⟩ (.int .i64 ((b : Int) + 1))).alloc (.cells #[.int .i64 0, .int .i64 0, .string ⟨#[]⟩, .slice none 0 0] 44)) = W3 at *
        rintro e w4 ⟨x2, b2, a2, n2, q2, rfl, hx2, hb2, hT2, hB4, hRd4⟩
        clear hp2 r0 r1 r2 rz1 rz2
        have hne2 : w2.heap.size ≠ R := by omega
        have HX2 : Hid (x2 = oe o2 ∧ b2 = o2.isSome) := ⟨hx2, hb2⟩
        have HT2' : Hid (ExsIn w4 (w2.heap.size + 1) w4.heap.size x2.of (.slice a2 n2 q2)) := by rw [hs3] at hT2; exact hT2
        have HB4 : Hid (But R wr w4 ∧ But R W3 w4) := ⟨((But.of K2.out).then hB3).then hB4, hB4⟩
        have HD4 : Hid (Rd w4 R g cap s ts (ts.length - m2.length) d) := hRd4
        have HZ4 : Hid (Bx w4 w.heap.size 0 0 ⟨#[]⟩ (.slice none 0 0)) := HZr.out.but HB4.out.1 hne
        have HE4 : Hid (Bx w4 w1.heap.size E.kind E.n E.name (.slice a' n' q')) := HE.out.but HB4.out.1 hne8
        have HR4 : Hid (Bx w4 w2.heap.size 0 0 ⟨#[]⟩ (.slice none 0 0)) := hz3.but hB4 hne2
        have hwr2 := K2.out.size
        obtain ⟨c0, c1, c2, c3, cf⟩ := HE4.out
        obtain ⟨v0, v1, v2, v3, vf⟩ := HR4.out
        have l4 := HE4.out.lt
        have l5 := HR4.out.lt
        have l6 : w1.heap.size ≠ w2.heap.size := by omega
        clear hx2 hb2 hT2 hB4 hRd4 hz3 hB3 hs3 hD3
        go_wp2_with fail
        have hzB := HB.out.size
        have hz0 := HZ.out.2
        obtain ⟨f1, f2, f3, f4⟩ := row_fin (kk := (k : Int)) hRs HR.out.lt hlt hB8 (by omega) hzB HE4.out HR4.out HET.out HT2'.out HBr.out HB4.out.1 HD4.out
        have hsuf : m2 <:+ left ts (b + 1) := by have := hs (left ts (b + 1)); rw [HP2.out] at this; exact this
        have hlen := suf_len hsuf
        have hleft := suf_left hsuf
        obtain ⟨hx2, hb2⟩ := HX2.out
        obtain ⟨hf1, hf2⟩ := HF.out
        refine ⟨⟨b2, Px.binE k E x2, some ⟨w4.heap.size, 0, none⟩, 2, 2, ts.length - m2.length, rfl, f1, f2, f3, f4, ?_, ?_⟩, ?_⟩
        · intro hok
          rw [hok] at hb2
          cases f with
          | zero => omega
          | succ f =>
            rw [Px.more, HOP.out, left_tail] at hf2
            simp only [HP2.out] at hf2
            cases o2 with
            | none => cases hb2
            | some r =>
              refine ⟨f, by omega, ?_⟩
              rw [hleft, hx2]
              exact hf2
        · intro hok
          rw [hok] at hb2
          cases f with
          | zero => omega
          | succ f =>
            rw [Px.more, HOP.out, left_tail] at hf2
            simp only [HP2.out] at hf2
            cases o2 with
            | some r => cases hb2
            | none =>
              simp only [Prod.mk.injEq] at hf2
              exact ⟨hf2.1.symm, by rw [hf2.2]⟩
        · have e1 := f4.atOf
          have e2 := HDr.out.atOf
          have e3 := HDr.out.few
          rw [e2]
          refine Nat.lt_of_le_of_lt (Nat.le_of_eq (congrArg (fun z => 6002 - z) e1)) ?_
          show 6002 - (ts.length - m2.length) < 6002 - b
          omega
end Go.Proofs.YtkobdephobaopaaGreatDoor
