/- What the small functions of package parse answer: declKind, stmtKind; token, skip, name, number. What the reader's small methods leave: skip, name, number, expression. What the reader's method expression leaves. -/
import Derived.Test.YtkobdephobaopaaGreatDoorRdB
import Derived.Test.YtkobdephobaopaaGreatDoorPlB
import Derived.Deep.DrawnRows

namespace Go.Proofs.YtkobdephobaopaaGreatDoor
open Go.RowKit
attribute [local go_sem] run_store_complex

/-! ### Turned in some blocks alone -/
structure Bu (M : Nat → Prop) (w w' : World) : Prop where
  os : w'.os = w.os
  tape : w'.tape = w.tape
  output : w'.output = w.output
  size : w.heap.size ≤ w'.heap.size
  block : ∀ k, k < w.heap.size → ¬ M k → w'.heap[k]? = w.heap[k]?
theorem Bu.of {M : Nat → Prop} {w w' : World} (h : Kept w w') : Bu M w w' := ⟨h.os, h.tape, h.output, h.size, fun k hk _ => h.block k hk⟩
theorem Bu.refl (M : Nat → Prop) (w : World) : Bu M w w := Bu.of (Kept.refl w)
theorem Bu.then {M : Nat → Prop} {a b c : World} (h : Bu M a b) (k : Bu M b c) : Bu M a c :=
  ⟨k.os.trans h.os, k.tape.trans h.tape, k.output.trans h.output, Nat.le_trans h.size k.size, fun i hi hn => (k.block i (Nat.lt_of_lt_of_le hi h.size) hn).trans (h.block i hi hn)⟩
theorem Bu.up {M M' : Nat → Prop} {w w' : World} (h : Bu M w w') (k : ∀ i, i < w.heap.size → M i → M' i) : Bu M' w w' := ⟨h.os, h.tape, h.output, h.size, fun i hi hn => h.block i hi fun c => hn (k i hi c)⟩
theorem Bu.al {M : Nat → Prop} {a w : World} (h : Bu M a w) (o : Obj) : Bu M a (w.alloc o) := h.then (Bu.of ((Kept.refl _).al o))
theorem Bu.dr {M : Nat → Prop} {a w : World} (h : Bu M a w) : Bu M a w.drew := h.then (Bu.of (Kept.refl _).dr)
theorem Bu.sets {M : Nat → Prop} {a w : World} (h : Bu M a w) {B : Nat} (hB : M B ∨ a.heap.size ≤ B) (o : Nat) (cs : List Value) : Bu M a (w.setCells B o cs) := by
  have hb : Below 0 w (w.setCells B o cs) := Below.setCells (Below.refl _ w) (Nat.zero_le _) _ _
  refine ⟨hb.os.trans h.os, hb.tape.trans h.tape, hb.output.trans h.output, Nat.le_trans h.size hb.size, fun i hi hn => (heap_setCells _ _ _ _ i ?_).trans (h.block i hi hn)⟩
  rintro rfl
  rcases hB with hB | hB
  · exact hn hB
  · omega
theorem setCell_eq (w : World) (b o : Nat) (v : Value) : w.setCell ⟨b, o, none⟩ v = w.setCells b o [v] := rfl
theorem Bu.set {M : Nat → Prop} {a w : World} (h : Bu M a w) {B : Nat} (hB : M B ∨ a.heap.size ≤ B) (o : Nat) (v : Value) : Bu M a (w.setCell ⟨B, o, none⟩ v) := h.sets hB o [v]
theorem Bu.cellE {M : Nat → Prop} {w w' : World} (h : Bu M w w') {b : Nat} (hb : b < w.heap.size) (hn : ¬ M b) (o : Nat) : w'.cell? ⟨b, o, none⟩ = w.cell? ⟨b, o, none⟩ := World.cell?_of_block (w := w) (a := ⟨b, o, none⟩) (h.block b hb hn)
theorem Bu.frozenE {M : Nat → Prop} {w w' : World} (h : Bu M w w') {b : Nat} (hb : b < w.heap.size) (hn : ¬ M b) (o : Nat) : w'.frozen? ⟨b, o, none⟩ = w.frozen? ⟨b, o, none⟩ := World.frozen?_of_block (w := w) (a := ⟨b, o, none⟩) (h.block b hb hn)
theorem Bu.cell {M : Nat → Prop} {w w' : World} (h : Bu M w w') {b o : Nat} {v : Value} (hc : w.cell? ⟨b, o, none⟩ = some v) (hn : ¬ M b) : w'.cell? ⟨b, o, none⟩ = some v := (h.cellE (block_lt_of_cell hc) hn o).trans hc
theorem Bu.kept {M : Nat → Prop} {w w' a : World} (h : Bu M w w') (k : Kept a w) (hM : ∀ i, M i → a.heap.size ≤ i) : Kept a w' :=
  ⟨h.os.trans k.os, h.tape.trans k.tape, h.output.trans k.output, Nat.le_trans k.size h.size, fun i hi => (h.block i (Nat.lt_of_lt_of_le hi k.size) (fun c => by have := hM i c; omega)).trans (k.block i hi)⟩
theorem Bu.stays {M D : Nat → Prop} {w w' : World} (h : Bu M w w') (hD : ∀ k, D k → k < w.heap.size ∧ ¬ M k) : StaysD D w w' := fun k hk => h.block k (hD k hk).1 (hD k hk).2
theorem But.bu {R : Nat} {M : Nat → Prop} {w w' : World} (h : But R w w') (hM : M R) : Bu M w w' := ⟨h.os, h.tape, h.output, h.size, fun k hk hn => h.block k hk fun e => hn (e ▸ hM)⟩

/-! ### Words -/
theorem eqb_no {t c : List UInt8} (h : t ≠ c) : (t == c) = false := beq_eq_false_iff_ne.2 h
theorem tl_no {t : List UInt8} {c : List UInt8} (h : t ≠ c) : ((⟨t.toArray⟩ : ByteArray).toList == c) = false := by rw [toList_data]; exact eqb_no h

set_option maxHeartbeats 1000000 in
theorem declKind_any (t : List UInt8) (w : World) : Calls Tryz.prog 53 #[.string ⟨t.toArray⟩] w fun e w' => e = .returned (.int .i64 (Pp.dk t : Nat)) ∧ w' = w := by
  by_cases h1 : t = [118, 97, 114]
  · subst h1; go_enter Tryz.func53, Tryz.ntmps53; go_wp2; go_ret; exact ⟨rfl, rfl⟩
  by_cases h2 : t = [119, 105, 100, 101]
  · subst h2; go_enter Tryz.func53, Tryz.ntmps53; go_wp2; go_ret; exact ⟨rfl, rfl⟩
  by_cases h3 : t = [97, 116, 111, 109, 105, 99]
  · subst h3; go_enter Tryz.func53, Tryz.ntmps53; go_wp2; go_ret; exact ⟨rfl, rfl⟩
  by_cases h4 : t = [108, 111, 99, 97, 108]
  · subst h4; go_enter Tryz.func53, Tryz.ntmps53; go_wp2; go_ret; exact ⟨rfl, rfl⟩
  by_cases h5 : t = [109, 117, 116, 101, 120]
  · subst h5; go_enter Tryz.func53, Tryz.ntmps53; go_wp2; go_ret; exact ⟨rfl, rfl⟩
  by_cases h6 : t = [99, 104, 97, 110]
  · subst h6; go_enter Tryz.func53, Tryz.ntmps53; go_wp2; go_ret; exact ⟨rfl, rfl⟩
  have e : Pp.dk t = 0 := by simp [Pp.dk, h1, h2, h3, h4, h5, h6]
  rw [e]
  have g1 := tl_no h1; have g2 := tl_no h2; have g3 := tl_no h3; have g4 := tl_no h4; have g5 := tl_no h5; have g6 := tl_no h6
  generalize (⟨t.toArray⟩ : ByteArray) = T at *
  clear e h1 h2 h3 h4 h5 h6
  go_enter Tryz.func53, Tryz.ntmps53
  go_wp2
  go_ret
  exact ⟨rfl, rfl⟩

set_option maxHeartbeats 1000000 in
theorem stmtKind_any (t : List UInt8) (w : World) : Calls Tryz.prog 110 #[.string ⟨t.toArray⟩] w fun e w' => e = .returned (.int .i64 (Pp.sk t : Nat)) ∧ w' = w := by
  by_cases h1 : t = [108, 111, 99, 107]
  · subst h1; go_enter Tryz.func110, Tryz.ntmps110; go_wp2; go_ret; exact ⟨rfl, rfl⟩
  by_cases h2 : t = [117, 110, 108, 111, 99, 107]
  · subst h2; go_enter Tryz.func110, Tryz.ntmps110; go_wp2; go_ret; exact ⟨rfl, rfl⟩
  by_cases h3 : t = [115, 101, 110, 100]
  · subst h3; go_enter Tryz.func110, Tryz.ntmps110; go_wp2; go_ret; exact ⟨rfl, rfl⟩
  by_cases h4 : t = [114, 101, 99, 118]
  · subst h4; go_enter Tryz.func110, Tryz.ntmps110; go_wp2; go_ret; exact ⟨rfl, rfl⟩
  by_cases h5 : t = [112, 114, 105, 110, 116]
  · subst h5; go_enter Tryz.func110, Tryz.ntmps110; go_wp2; go_ret; exact ⟨rfl, rfl⟩
  by_cases h6 : t = [105, 102]
  · subst h6; go_enter Tryz.func110, Tryz.ntmps110; go_wp2; go_ret; exact ⟨rfl, rfl⟩
  by_cases h7 : t = [114, 101, 112, 101, 97, 116]
  · subst h7; go_enter Tryz.func110, Tryz.ntmps110; go_wp2; go_ret; exact ⟨rfl, rfl⟩
  by_cases h8 : t = [103, 111, 116, 111]
  · subst h8; go_enter Tryz.func110, Tryz.ntmps110; go_wp2; go_ret; exact ⟨rfl, rfl⟩
  by_cases h9 : t = [108, 97, 98, 101, 108]
  · subst h9; go_enter Tryz.func110, Tryz.ntmps110; go_wp2; go_ret; exact ⟨rfl, rfl⟩
  have e : Pp.sk t = 1 := by simp [Pp.sk, h1, h2, h3, h4, h5, h6, h7, h8, h9]
  rw [e]
  have g1 := tl_no h1; have g2 := tl_no h2; have g3 := tl_no h3; have g4 := tl_no h4; have g5 := tl_no h5; have g6 := tl_no h6; have g7 := tl_no h7; have g8 := tl_no h8; have g9 := tl_no h9
  generalize (⟨t.toArray⟩ : ByteArray) = T at *
  clear e h1 h2 h3 h4 h5 h6 h7 h8 h9
  go_enter Tryz.func110, Tryz.ntmps110
  go_wp2
  go_ret
  exact ⟨rfl, rfl⟩

/-! ### The token that is next -/
/-- Where the token stands of which, with it, so many are left. -/
def plOf (s : ByteArray) (ts : List Lx.Tk) : Pp.Pl := fun n => (lineW s (ts.getD (ts.length - n) ⟨0, 0, [], 0⟩).at', colW s (ts.getD (ts.length - n) ⟨0, 0, [], 0⟩).at')
theorem plOf_at (s : ByteArray) (ts : List Lx.Tk) (a : Nat) (h : a < ts.length) : plOf s ts (left ts a).length = (lineW s ts[a].at', colW s ts[a].at') := by
  unfold plOf
  rw [left_len, show ts.length - (ts.length - a) = a by omega]
  simp [List.getD, h]

set_option maxRecDepth 100000 in
set_option maxHeartbeats 1000000 in
theorem ptoken_any {R g cap : Nat} {s : ByteArray} {ts : List Lx.Tk} {a d : Nat} {w : World} (h : Rd w R g cap s ts a d) (hlt : a < ts.length) {kd n : Nat} {tx : List UInt8} (ht : Px.hd (left ts a) = (kd, tx, n)) :
    Calls Tryz.prog 29 #[.pointer (some ⟨R, 0, none⟩)] w fun e w' => e = .returned (.agg #[.int .i64 (kd : Int), .string ⟨tx.toArray⟩, .int .i64 (n : Int), .complex .f64 (plOf s ts (left ts a).length).1 (plOf s ts (left ts a).length).2]) ∧ Kept w w' := by
  have hR := h.rlt
  have c0 := h.c0
  have c1 := h.c1
  have hf := h.few
  rw [plOf_at s ts a hlt]
  rw [hd_in ts a hlt] at ht
  injection ht with e1 ht
  injection ht with e2 e3
  subst e1 e2 e3
  obtain ⟨d0, d1, d2, d3⟩ := h.row.at a hlt
  have hg := h.lt
  have hlt' : (a : Int) < (ts.length : Int) := by omega
  obtain ⟨n, hn⟩ : ∃ n, ts.length = n := ⟨_, rfl⟩
  have hnb : n ≤ 6001 := by omega
  generalize ts[a].kind = kd at *
  generalize ts[a].text = tx at *
  generalize ts[a].n = nn at *
  generalize lineW s ts[a].at' = X at *
  generalize colW s ts[a].at' = Y at *
  rw [hn] at hlt' c0
  clear h hlt hf hn
  go_enter Tryz.func29, Tryz.ntmps29
  go_wp2_with fail
  go_region
  go_wp2_with fail
  exact bodyPost_ret (v := .agg #[.int .i64 (kd : Int), .string ⟨tx.toArray⟩, .int .i64 (nn : Int), .complex .f64 X Y]) (by simp [results, Tryz.results29, go_sem]) rfl ⟨rfl, ((Kept.refl _).al _).dr⟩
/-! ### A token's parts -/
theorem field_kind (w : World) (k n : Int) (t : ByteArray) (X Y : Nat) : (Instr.field 68 (.agg #[.int .i64 k, .string t, .int .i64 n, .complex .f64 X Y]) 0).run Tryz.prog w = .ok (.int .i64 k) w := by
  simp [Instr.field, run_underlying Tryz.underlying68, part, asAgg, go_sem, Tryz.isAgg3]
theorem field_text (w : World) (k n : Int) (t : ByteArray) (X Y : Nat) : (Instr.field 68 (.agg #[.int .i64 k, .string t, .int .i64 n, .complex .f64 X Y]) 1).run Tryz.prog w = .ok (.string t) w := by
  simp [Instr.field, run_underlying Tryz.underlying68, part, asAgg, go_sem, Tryz.isAgg9]
theorem field_place (w : World) (k n : Int) (t : ByteArray) (X Y : Nat) : (Instr.field 68 (.agg #[.int .i64 k, .string t, .int .i64 n, .complex .f64 X Y]) 3).run Tryz.prog w = .ok (.complex .f64 X Y) w := by
  simp [Instr.field, run_underlying Tryz.underlying68, part, asAgg, go_sem, Tryz.isAgg28]
end Go.Proofs.YtkobdephobaopaaGreatDoor

namespace Go.Proofs.YtkobdephobaopaaGreatDoor
open Go.RowKit
attribute [local go_sem] run_store_complex field_kind field_text field_place
attribute [local go_sem ↓] Go.wp_at_zero Go.wp_at_succ

abbrev RB (R B : Nat) : Nat → Prop := fun k => k = R ∨ k = B

/-- In block B the values vs lie from o on; all else there is as it was. -/
structure Put (B o : Nat) (vs : List Value) (w w' : World) : Prop where
  cells : w'.rangeAt B o vs
  others : ∀ j, (j < o ∨ o + vs.length ≤ j) → w'.cell? ⟨B, j, none⟩ = w.cell? ⟨B, j, none⟩
  fz : ∀ j, w'.frozen? ⟨B, j, none⟩ = w.frozen? ⟨B, j, none⟩
theorem Put.sets {w : World} {B o : Nat} (vs : List Value) (h : w.there B o vs.length) : Put B o vs w (w.setCells B o vs) :=
  ⟨World.rangeAt_setCells_same w B o vs h, fun j hj => World.cell?_setCells_out B vs o w ⟨B, j, none⟩ fun _ _ => hj, fun _ => World.frozen?_setCells ..⟩
/-- Behind it, all in block B is as it was. -/
theorem Put.after {B o : Nat} {vs : List Value} {w w1 w2 : World} (h : Put B o vs w w1) (e : w2.heap[B]? = w1.heap[B]?) : Put B o vs w w2 :=
  ⟨fun j v hv => by rw [World.cell?_of_block (w := w1) (a := ⟨B, o + j, none⟩) e]; exact h.cells j v hv, fun j hj => by rw [World.cell?_of_block (w := w1) (a := ⟨B, j, none⟩) e]; exact h.others j hj,
   fun j => by rw [World.frozen?_of_block (w := w1) (a := ⟨B, j, none⟩) e]; exact h.fz j⟩
theorem Put.ahead {B o : Nat} {vs : List Value} {w0 w w1 : World} (h : Put B o vs w w1) (e : w.heap[B]? = w0.heap[B]?) : Put B o vs w0 w1 :=
  ⟨h.cells, fun j hj => by rw [h.others j hj, World.cell?_of_block (w := w0) (a := ⟨B, j, none⟩) e], fun j => by rw [h.fz j, World.frozen?_of_block (w := w0) (a := ⟨B, j, none⟩) e]⟩

/-- What a method leaves that reads something into cells of block B. -/
def Into {α : Type} (R g cap : Nat) (s : ByteArray) (ts : List Lx.Tk) (d B o : Nat) (V : World → α → List Value → Prop) (w : World) (r : Option α) (m : List Lx.Core) (e : Ending) (w' : World) : Prop :=
  e = .returned (.bool r.isSome) ∧ Bu (RB R B) w w' ∧ (∃ d', Rd w' R g cap s ts (ts.length - m.length) d' ∧ (r.isSome = true → d' = d)) ∧ ∀ x, r = some x → ∃ vs, V w' x vs ∧ Put B o vs w w'

theorem there_cell {w : World} {B o : Nat} (h : w.there B o 1) : (∃ v, w.cell? ⟨B, o, none⟩ = some v) ∧ w.frozen? ⟨B, o, none⟩ = false ∧ B < w.heap.size := by
  obtain ⟨h1, h2⟩ := h 0 (by decide)
  rw [Nat.add_zero] at h1 h2
  obtain ⟨v, hv⟩ := Option.isSome_iff_exists.1 h1
  exact ⟨⟨v, hv⟩, h2, block_lt_of_cell hv⟩
theorem there_lt {w : World} {B o n : Nat} (h : w.there B o n) (hn : 0 < n) : B < w.heap.size := by
  obtain ⟨h1, h2⟩ := h 0 hn
  obtain ⟨v, hv⟩ := Option.isSome_iff_exists.1 h1
  exact block_lt_of_cell hv
theorem len_tail (ts : List Lx.Tk) (a : Nat) (h : a < ts.length) : ts.length - (left ts a).tail.length = a + 1 := by
  rw [left_tail, left_len]; omega
theorem len_left (ts : List Lx.Tk) (a : Nat) (h : a ≤ ts.length) : ts.length - (left ts a).length = a := by
  rw [left_len]; omega
theorem alive_lt {ts : List Lx.Tk} {a : Nat} (h : Pp.Alive (left ts a)) : a < ts.length := by
  have := h.pos
  rw [left_len] at this; omega

set_option maxRecDepth 100000 in
set_option maxHeartbeats 1000000 in
theorem skip_any {R g cap : Nat} {s : ByteArray} {ts : List Lx.Tk} {a d : Nat} {w : World} (h : Rd w R g cap s ts a d) (hl : Pp.Alive (left ts a)) (x : List UInt8) (b : Bool) (hb : ((Px.hd (left ts a)).2.1 == x) = b) :
    Calls Tryz.prog 55 #[.pointer (some ⟨R, 0, none⟩), .string ⟨x.toArray⟩] w fun e w' => e = .returned (.bool b) ∧ Bu (· = R) w w' ∧ Rd w' R g cap s ts (a + b.toNat) d := by
  have hlt := alive_lt hl
  have hlt' : (a : Int) + 1 ≤ 6001 := by have := h.few; omega
  obtain ⟨kd, tx, n, ht⟩ : ∃ kd tx n, Px.hd (left ts a) = (kd, tx, n) := ⟨_, _, _, rfl⟩
  have HT : Hid (Calls Tryz.prog 29 #[.pointer (some ⟨R, 0, none⟩)] w _) := ptoken_any h hlt ht
  have HR : Hid (Rd w R g cap s ts a d ∧ a < ts.length) := ⟨h, hlt⟩
  rw [ht] at hb
  have hb : (tx == x) = b := hb
  have hb2 : ((⟨tx.toArray⟩ : ByteArray).toList == (⟨x.toArray⟩ : ByteArray).toList) = b := by rw [toList_data, toList_data]; exact hb
  have hb3 : ((⟨tx.toArray⟩ : ByteArray).toList != (⟨x.toArray⟩ : ByteArray).toList) = !b := by unfold bne; rw [hb2]
  generalize (plOf s ts (left ts a).length).1 = X at *
  generalize (plOf s ts (left ts a).length).2 = Y at *
  generalize (⟨x.toArray⟩ : ByteArray) = xb at *
  generalize (⟨tx.toArray⟩ : ByteArray) = tb at *
  clear hb h hl ht hlt
  cases b with
  | false =>
    simp only [Bool.not_false] at hb3
    go_enter Tryz.func55, Tryz.ntmps55
    go_wp2_with fail
    refine HT.out.mono ?_
    rintro e w1 ⟨rfl, k1⟩
    have K1 : Hid (Kept w w1) := k1
    clear k1
    go_wp2_with fail
    go_ret
    exact ⟨rfl, Bu.of K1.out, HR.out.1.kept K1.out⟩
  | true =>
    simp only [Bool.not_true] at hb3
    go_enter Tryz.func55, Tryz.ntmps55
    go_wp2_with fail
    refine HT.out.mono ?_
    rintro e w1 ⟨rfl, k1⟩
    have K1 : Hid (Kept w w1) := k1
    have H1 : Hid (Rd w1 R g cap s ts a d) := HR.out.1.kept k1
    obtain ⟨r0, r1, r2, rz1, rz2, -⟩ := H1.out
    clear k1
    go_wp2_with fail
    go_ret
    refine ⟨rfl, Bu.set (M := (· = R)) (Bu.of K1.out) (.inl rfl) 1 _, ?_⟩
    exact H1.out.at' (a + 1) HR.out.2

theorem Rd.put {w : World} {R g cap : Nat} {s : ByteArray} {ts : List Lx.Tk} {a d : Nat} (h : Rd w R g cap s ts a d) {B o : Nat} (hR : B ≠ R) (hg : B ≠ g) (v : Value) : Rd (w.setCell ⟨B, o, none⟩ v) R g cap s ts a d := h.sets hR hg o [v]

set_option maxRecDepth 100000 in
set_option maxHeartbeats 1000000 in
theorem pname_any {R g cap : Nat} {s : ByteArray} {ts : List Lx.Tk} {a d B o : Nat} {w : World} (h : Rd w R g cap s ts a d) (hl : Pp.Alive (left ts a)) (hT : w.there B o 1) (hBR : B ≠ R) (hBg : B ≠ g) (r : Option (List UInt8)) (m : List Lx.Core) (hr : Pp.name (left ts a) = (r, m)) :
    Calls Tryz.prog 87 #[.pointer (some ⟨R, 0, none⟩), .pointer (some ⟨B, o, none⟩)] w fun e w' => Into R g cap s ts d B o (fun _ x vs => vs = [.string (Px.ba x)]) w r m e w' := by
  have hlt := alive_lt hl
  have hlt' : (a : Int) + 1 ≤ 6001 := by have := h.few; omega
  obtain ⟨kd, tx, n, ht⟩ : ∃ kd tx n, Px.hd (left ts a) = (kd, tx, n) := ⟨_, _, _, rfl⟩
  have HT : Hid (Calls Tryz.prog 29 #[.pointer (some ⟨R, 0, none⟩)] w _) := ptoken_any h hlt ht
  have HR : Hid (Rd w R g cap s ts a d ∧ a < ts.length ∧ w.there B o 1 ∧ B ≠ R ∧ B ≠ g) := ⟨h, hlt, hT, hBR, hBg⟩
  have hr2 : (if Px.isNm tx = true then (some tx, (left ts a).tail) else (none, left ts a)) = (r, m) := by
    rw [← hr]; unfold Pp.name; rw [ht]
  generalize (plOf s ts (left ts a).length).1 = X at *
  generalize (plOf s ts (left ts a).length).2 = Y at *
  obtain ⟨⟨bv, hbv⟩, hbf, hbl⟩ := there_cell hT
  by_cases hn : Px.isNm tx = true
  · rw [if_pos hn] at hr2
    injection hr2 with e1 e2
    have HM : Hid (ts.length - m.length = a + 1) := by show _ = _; rw [← e2]; exact len_tail ts a hlt
    subst e1
    have HN : Hid (∀ W, Calls Tryz.prog 109 #[.string ⟨tx.toArray⟩] W fun e w' => e = .returned (.bool true) ∧ w' = W) := fun W => name_at tx true hn W
    obtain ⟨tb, htb⟩ : ∃ tb : ByteArray, ⟨tx.toArray⟩ = tb := ⟨_, rfl⟩
    have HTB : Hid (Px.ba tx = tb) := htb
    rw [htb] at HN HT
    clear h hl ht hlt hr e2 hn htb hT
    go_enter Tryz.func87, Tryz.ntmps87
    go_wp2_with fail
    refine HT.out.mono ?_
    rintro e w1 ⟨rfl, k1⟩
    have K1 : Hid (Kept w w1) := k1
    have H1 : Hid (Rd w1 R g cap s ts a d) := HR.out.1.kept k1
    obtain ⟨r0, r1, r2, rz1, rz2, -⟩ := H1.out
    have hR1 := H1.out.rlt
    have hb1 : B < w1.heap.size := Nat.lt_of_lt_of_le hbl k1.size
    have hbv1 := k1.cellS hbv
    have hbf1 : w1.frozen? ⟨B, o, none⟩ = false := (k1.frozen (p := ⟨B, o, none⟩) hbl).trans hbf
    have HTH : Hid (w1.there B o 1) := fun j hj => by
      obtain rfl : j = 0 := by omega
      exact ⟨by rw [Nat.add_zero, hbv1]; rfl, by rw [Nat.add_zero]; exact hbf1⟩
    clear k1
    go_wp2_with fail
    refine (HN.out _).mono ?_
    rintro e w2 ⟨rfl, rfl⟩
    go_wp2_with fail
    go_ret
    refine ⟨rfl, ?_, ⟨d, ?_, fun _ => rfl⟩, ?_⟩
    · exact (((Bu.of K1.out).set (.inl (.inr rfl)) o _).set (.inl (.inl rfl)) 1 _).al _
    · rw [HM.out]
      exact ((H1.out.put HR.out.2.2.2.1 HR.out.2.2.2.2 _).at' (a + 1) HR.out.2.1).kept ((Kept.refl _).al _)
    · rintro x hx
      injection hx with hx
      subst hx
      refine ⟨_, rfl, ?_⟩
      rw [HTB.out]
      have p1 := (Put.sets (w := w1) [.string tb] HTH.out).ahead (K1.out.block B hbl)
      refine p1.after ?_
      exact (((Kept.refl _).al _).block B (by rw [setCell_size, setCell_size]; exact hb1)).trans (heap_setCells R [_] 1 _ B HR.out.2.2.2.1)
  · have hn' : Px.isNm tx = false := by simpa using hn
    rw [if_neg hn] at hr2
    injection hr2 with e1 e2
    have HM : Hid (ts.length - m.length = a) := by show _ = _; rw [← e2]; exact len_left ts a (Nat.le_of_lt hlt)
    subst e1
    have HN : Hid (∀ W, Calls Tryz.prog 109 #[.string ⟨tx.toArray⟩] W fun e w' => e = .returned (.bool false) ∧ w' = W) := fun W => name_at tx false hn' W
    obtain ⟨tb, htb⟩ : ∃ tb : ByteArray, ⟨tx.toArray⟩ = tb := ⟨_, rfl⟩
    rw [htb] at HN HT
    clear h hl ht hlt hr e2 hn hn' htb hT
    go_enter Tryz.func87, Tryz.ntmps87
    go_wp2_with fail
    refine HT.out.mono ?_
    rintro e w1 ⟨rfl, k1⟩
    have K1 : Hid (Kept w w1) := k1
    clear k1
    go_wp2_with fail
    refine (HN.out _).mono ?_
    rintro e w2 ⟨rfl, rfl⟩
    go_wp2_with fail
    go_ret
    refine ⟨rfl, Bu.of (K1.out.al _), ⟨d, ?_, fun _ => rfl⟩, fun x hx => by cases hx⟩
    rw [HM.out]
    exact HR.out.1.kept (K1.out.al _)

set_option maxRecDepth 100000 in
set_option maxHeartbeats 1000000 in
theorem number_any {R g cap : Nat} {s : ByteArray} {ts : List Lx.Tk} {a d B o : Nat} {w : World} (h : Rd w R g cap s ts a d) (hl : Pp.Alive (left ts a)) (hT : w.there B o 1) (hBR : B ≠ R) (hBg : B ≠ g) (most : Nat) (r : Option Nat) (m : List Lx.Core) (hr : Pp.number most (left ts a) = (r, m)) :
    Calls Tryz.prog 88 #[.pointer (some ⟨R, 0, none⟩), .pointer (some ⟨B, o, none⟩), .int .i64 (most : Int)] w fun e w' => Into R g cap s ts d B o (fun _ (x : Nat) vs => vs = [.int .i64 (x : Int)]) w r m e w' := by
  have hlt := alive_lt hl
  have hlt' : (a : Int) + 1 ≤ 6001 := by have := h.few; omega
  obtain ⟨kd, tx, n, ht⟩ : ∃ kd tx n, Px.hd (left ts a) = (kd, tx, n) := ⟨_, _, _, rfl⟩
  have HT : Hid (Calls Tryz.prog 29 #[.pointer (some ⟨R, 0, none⟩)] w _) := ptoken_any h hlt ht
  have HR : Hid (Rd w R g cap s ts a d ∧ a < ts.length ∧ w.there B o 1 ∧ B ≠ R ∧ B ≠ g) := ⟨h, hlt, hT, hBR, hBg⟩
  have hr2 : (if kd = 2 ∧ n ≤ most then (some n, (left ts a).tail) else (none, left ts a)) = (r, m) := by
    rw [← hr]; unfold Pp.number; rw [ht]
  generalize (plOf s ts (left ts a).length).1 = X at *
  generalize (plOf s ts (left ts a).length).2 = Y at *
  obtain ⟨⟨bv, hbv⟩, hbf, hbl⟩ := there_cell hT
  obtain ⟨tb, htb⟩ : ∃ tb : ByteArray, ⟨tx.toArray⟩ = tb := ⟨_, rfl⟩
  rw [htb] at HT
  by_cases hn : kd = 2 ∧ n ≤ most
  · rw [if_pos hn] at hr2
    injection hr2 with e1 e2
    have HM : Hid (ts.length - m.length = a + 1) := by show _ = _; rw [← e2]; exact len_tail ts a hlt
    subst e1
    obtain ⟨rfl, hle⟩ := hn
    have hle' : ¬ ((most : Int) < (n : Int)) := by omega
    clear h hl ht hlt hr e2 htb hT hle
    go_enter Tryz.func88, Tryz.ntmps88
    go_wp2_with fail
    refine HT.out.mono ?_
    rintro e w1 ⟨rfl, k1⟩
    have K1 : Hid (Kept w w1) := k1
    have H1 : Hid (Rd w1 R g cap s ts a d) := HR.out.1.kept k1
    obtain ⟨r0, r1, r2, rz1, rz2, -⟩ := H1.out
    have hR1 := H1.out.rlt
    have hb1 : B < w1.heap.size := Nat.lt_of_lt_of_le hbl k1.size
    have hbv1 := k1.cellS hbv
    have hbf1 : w1.frozen? ⟨B, o, none⟩ = false := (k1.frozen (p := ⟨B, o, none⟩) hbl).trans hbf
    have HTH : Hid (w1.there B o 1) := fun j hj => by
      obtain rfl : j = 0 := by omega
      exact ⟨by rw [Nat.add_zero, hbv1]; rfl, by rw [Nat.add_zero]; exact hbf1⟩
    clear k1
    go_wp2_with fail
    go_ret
    refine ⟨rfl, ?_, ⟨d, ?_, fun _ => rfl⟩, ?_⟩
    · exact (((Bu.of K1.out).set (.inl (.inr rfl)) o _).set (.inl (.inl rfl)) 1 _).al _
    · rw [HM.out]
      exact ((H1.out.put HR.out.2.2.2.1 HR.out.2.2.2.2 _).at' (a + 1) HR.out.2.1).kept ((Kept.refl _).al _)
    · rintro x hx
      injection hx with hx
      subst hx
      refine ⟨_, rfl, ?_⟩
      have p1 := (Put.sets (w := w1) [.int .i64 (n : Int)] HTH.out).ahead (K1.out.block B hbl)
      refine p1.after ?_
      exact (((Kept.refl _).al _).block B (by rw [setCell_size, setCell_size]; exact hb1)).trans (heap_setCells R [_] 1 _ B HR.out.2.2.2.1)
  · rw [if_neg hn] at hr2
    injection hr2 with e1 e2
    have HM : Hid (ts.length - m.length = a) := by show _ = _; rw [← e2]; exact len_left ts a (Nat.le_of_lt hlt)
    subst e1
    have fin : ∀ w1, Kept w w1 → ∀ ob, Into R g cap s ts d B o (fun _ (x : Nat) vs => vs = [.int .i64 (x : Int)]) w none m (.returned (.bool false)) (w1.alloc ob) := fun w1 k1 ob => by
      refine ⟨rfl, Bu.of (k1.al _), ⟨d, ?_, fun _ => rfl⟩, fun x hx => by cases hx⟩
      rw [HM.out]
      exact HR.out.1.kept (k1.al _)
    have HF : Hid _ := fin
    clear fin
    by_cases h2 : kd = 2
    · subst h2
      have hgt : (most : Int) < (n : Int) := by
        have : ¬ n ≤ most := fun c => hn ⟨rfl, c⟩
        omega
      clear h hl ht hlt hr e2 hn htb hT
      go_enter Tryz.func88, Tryz.ntmps88
      go_wp2_with fail
      refine HT.out.mono ?_
      rintro e w1 ⟨rfl, k1⟩
      have K1 : Hid (Kept w w1) := k1
      clear k1
      go_wp2_with fail
      go_ret
      exact HF.out _ K1.out _
    · have h2' : ((kd : Int) == 2) = false := ne_int (by omega)
      have h3' : ((kd : Int) != 2) = true := by rw [bne_iff_ne]; omega
      clear h hl ht hlt hr e2 hn htb hT h2
      go_enter Tryz.func88, Tryz.ntmps88
      go_wp2_with fail
      refine HT.out.mono ?_
      rintro e w1 ⟨rfl, k1⟩
      have K1 : Hid (Kept w w1) := k1
      clear k1
      go_wp2_with fail
      go_ret
      exact HF.out _ K1.out _
end Go.Proofs.YtkobdephobaopaaGreatDoor

namespace Go.Proofs.YtkobdephobaopaaGreatDoor
open Go.RowKit
attribute [local go_sem] run_store_complex field_kind field_text field_place
attribute [local go_sem ↓] Go.wp_at_zero Go.wp_at_succ

theorem there_four {w : World} {B o : Nat} (h : w.there B o 4) : (∃ v, w.cell? ⟨B, o, none⟩ = some v) ∧ (∃ v, w.cell? ⟨B, o + 1, none⟩ = some v) ∧ (∃ v, w.cell? ⟨B, o + 2, none⟩ = some v) ∧ (∃ v, w.cell? ⟨B, o + 3, none⟩ = some v) ∧
    w.frozen? ⟨B, o, none⟩ = false ∧ w.frozen? ⟨B, o + 1, none⟩ = false ∧ w.frozen? ⟨B, o + 2, none⟩ = false ∧ w.frozen? ⟨B, o + 3, none⟩ = false := by
  have f : ∀ j, j < 4 → ∃ v, w.cell? ⟨B, o + j, none⟩ = some v := fun j hj => Option.isSome_iff_exists.1 (h j hj).1
  exact ⟨f 0 (by decide), f 1 (by decide), f 2 (by decide), f 3 (by decide), (h 0 (by decide)).2, (h 1 (by decide)).2, (h 2 (by decide)).2, (h 3 (by decide)).2⟩

set_option maxRecDepth 100000 in
set_option maxHeartbeats 1000000 in
theorem pexpr_any {R g cap : Nat} {s : ByteArray} {ts : List Lx.Tk} {a d B o : Nat} {w : World} (h : Rd w R g cap s ts a d) (hl : Pp.Alive (left ts a)) (hT : w.there B o 4) (hBR : B ≠ R) (hBg : B ≠ g) (r : Option Ex) (m : List Lx.Core) (hr : Px.read (left ts a) = (r, m)) :
    Calls Tryz.prog 111 #[.pointer (some ⟨R, 0, none⟩), .pointer (some ⟨B, o, none⟩)] w fun e w' => Into R g cap s ts d B o (fun w' (x : Ex) vs => ∃ v, vs = x.cells v ∧ ExsIn w' w.heap.size w'.heap.size x.of v) w r m e w' := by
  have hlt := alive_lt hl
  have HC : Hid (∀ W, Kept w W → Calls Tryz.prog 121 #[.slice (some ⟨g, 0, none⟩) ts.length cap, .int .i64 (a : Int)] W fun e w' => ∃ (x : Ex) (b : Bool) (p : Nat) (a : Option Addr) (n q : Nat), e = .returned (.tuple #[.agg #[.int .i64 x.kind, .int .i64 x.n, .string x.name, .slice a n q], .int .i64 (p : Int), .bool b]) ∧
      Hid (x = oe r ∧ b = r.isSome ∧ p = ts.length - m.length ∧ ExsIn w' w.heap.size w'.heap.size x.of (.slice a n q)) ∧ Kept w w') := fun W hW =>
    (read_from (h.kept hW).row (h.kept hW).lt hlt h.few r m hr).mono fun e w' ⟨x, b, p, a1, n1, q1, e1, e2, e3, e4, e5, e6⟩ => ⟨x, b, p, a1, n1, q1, e1, ⟨e2, e3, e4, e5.mono (Rng.up hW.size (Nat.le_refl _))⟩, hW.then e6⟩
  have HR : Hid (Rd w R g cap s ts a d ∧ a < ts.length ∧ w.there B o 4 ∧ B ≠ R ∧ B ≠ g) := ⟨h, hlt, hT, hBR, hBg⟩
  obtain ⟨⟨v0, b0⟩, ⟨v1, b1⟩, ⟨v2, b2⟩, ⟨v3, b3⟩, f0, f1, f2, f3⟩ := there_four hT
  have hRl := h.rlt
  have hBl : B < w.heap.size := block_lt_of_cell b0
  obtain ⟨c0, c1, c2, z1, z2, -⟩ := h
  obtain ⟨N, hN⟩ : ∃ N, ts.length = N := ⟨_, rfl⟩
  have HNN : Hid (ts.length = N) := hN
  rw [hN] at c0 HC
  clear hl hT hr hlt hN
  go_enter Tryz.func111, Tryz.ntmps111
  go_wp2_with fail
  go_region_with (go_at_call 121; refine (HC.out _ (by first | exact Kept.refl _ | exact (Kept.refl _).dr)).mono ?_; rintro e w1 ⟨x, b, p, a1, n1, q1, rfl, HX, hk⟩; obtain ⟨hcc, hff⟩ := bcell hk; have HK : Hid (Kept w w1) := hk; clear hk)
  all_goals
    go_wp2_with fail
    go_ret
    obtain ⟨hx, hb, hp, hE⟩ := HX.out
    obtain ⟨hR, hlt, hT, -, -⟩ := HR.out
    have hk := HK.out
    have hT1 : w1.there B o 4 := fun j hj => ⟨by rw [hk.cell (p := ⟨B, o + j, none⟩) hBl]; exact (hT j hj).1, by rw [hk.frozen (p := ⟨B, o + j, none⟩) hBl]; exact (hT j hj).2⟩
    have p0 := ((Put.sets (w := w1) [.int .i64 x.kind, .int .i64 x.n, .string x.name, .slice a1 n1 q1] hT1).ahead (hk.block B hBl))
    obtain ⟨W1, hW1⟩ : ∃ W1, w1.setCells B o [.int .i64 x.kind, .int .i64 x.n, .string x.name, .slice a1 n1 q1] = W1 := ⟨_, rfl⟩
    rw [hW1] at p0
    have hW1' : (((w1.setCell ⟨B, o, none⟩ (.int .i64 x.kind)).setCell ⟨B, o + 1, none⟩ (.int .i64 x.n)).setCell ⟨B, o + 2, none⟩ (.string x.name)).setCell ⟨B, o + 3, none⟩ (.slice a1 n1 q1) = W1 := hW1
    rw [hW1']
    have hRd : Rd W1 R g cap s ts a d := by rw [← hW1]; exact (hR.kept hk).sets hBR hBg _ _
    have hsz : W1.heap.size = w1.heap.size := by rw [← hW1]; exact size_setCells ..
    have hb1 : Bu (RB R B) w W1 := by rw [← hW1]; exact (Bu.of hk).sets (.inl (.inr rfl)) _ _
    have hp2 : p = ts.length - m.length := by rw [HNN.out]; exact hp
    have hbl : ∀ k, k ≠ B → W1.heap[k]? = w1.heap[k]? := fun k hk => by rw [← hW1]; exact heap_setCells _ _ _ _ k hk
    refine ⟨ret_bool hb, hb1.set (.inl (.inl rfl)) 1 _, ⟨d, ?_, fun _ => rfl⟩, ?_⟩
    · rw [← hp2]
      exact hRd.at' p (by rw [hp2]; omega)
    · intro y hy
      subst hy
      refine ⟨_, ⟨.slice a1 n1 q1, rfl, ?_⟩, ?_⟩
      · have hxy : x = y := hx
        subst hxy
        refine ((hE.stays fun k hk => ?_).mono (Rng.up (Nat.le_refl _) ?_))
        · have h1 := hk.1
          have h2 := hk.2
          exact (heap_setCells R [_] 1 _ k (by omega)).trans (hbl k (by omega))
        · show w1.heap.size ≤ (W1.setCell _ _).heap.size
          rw [setCell_size]; omega
      · have hxy : x = y := hx
        subst hxy
        refine p0.after ?_
        exact heap_setCells R [_] 1 _ B hBR
end Go.Proofs.YtkobdephobaopaaGreatDoor
