/- The reader at what is left of the tokens, and a statement's box; what stands behind a keyword. What stands behind each keyword. What the reader's method statement leaves. -/
import Derived.Test.YtkobdephobaopaaGreatDoorPaA
import Derived.Test.YtkobdephobaopaaGreatDoorBs
import Derived.Deep.DrawnRows

namespace Go.Proofs.YtkobdephobaopaaGreatDoor
open Go.RowKit
attribute [local go_sem] run_store_complex field_kind field_text field_place

theorem hide {p : Prop} (h : p) : Hid p := h
theorem unhide {p : Prop} (h : Hid p) : p := h.out
theorem BoxS.cell {w : World} {B : Nat} {cs : List Value} (h : BoxS w B cs) (j : Nat) {v : Value} (hv : cs[j]? = some v) : w.cell? ⟨B, j, none⟩ = some v := by
  have := h.rng j v hv; rwa [Nat.zero_add] at this
theorem BoxS.there {w : World} {B : Nat} {cs : List Value} (h : BoxS w B cs) (o n : Nat) (ho : o + n ≤ cs.length) : w.there B o n := fun j hj => ⟨by rw [h.cell (o + j) (List.getElem?_eq_getElem (by omega))]; rfl, h.fz _⟩
theorem BoxS.put {w w' : World} {B o : Nat} {cs vs : List Value} (h : BoxS w B cs) (k : Put B o vs w w') (ho : o + vs.length ≤ cs.length) (hs : w.heap.size ≤ w'.heap.size) : BoxS w' B (cs.take o ++ vs ++ cs.drop (o + vs.length)) := by
  have hlt : (cs.take o).length = o := by rw [List.length_take]; omega
  refine ⟨fun i v hv => ?_, fun j => (k.fz j).trans (h.fz j), Nat.lt_of_lt_of_le h.lt hs⟩
  rw [Nat.zero_add]
  by_cases h1 : i < o
  · rw [k.others i (.inl h1)]
    rw [List.append_assoc, List.getElem?_append_left (by omega), List.getElem?_take, if_pos h1] at hv
    exact h.cell i hv
  · by_cases h2 : i < o + vs.length
    · rw [List.append_assoc, List.getElem?_append_right (by omega), hlt, List.getElem?_append_left (by omega)] at hv
      have := k.cells (i - o) v hv
      rwa [show o + (i - o) = i by omega] at this
    · rw [k.others i (.inr (by omega))]
      rw [List.getElem?_append_right (by rw [List.length_append]; omega), List.length_append, hlt, List.getElem?_drop, show o + vs.length + (i - (o + vs.length)) = i by omega] at hv
      exact h.cell i hv

/-- The reader stands at l, a box holds cs. -/
structure AtB (R g cap : Nat) (s : ByteArray) (ts : List Lx.Tk) (d B : Nat) (w : World) (l : List Lx.Core) (cs : List Value) : Prop where
  rd : Rd w R g cap s ts (ts.length - l.length) d
  eq : left ts (ts.length - l.length) = l
  al : Pp.Alive l
  box : BoxS w B cs
  nR : B ≠ R
  ng : B ≠ g
section
variable {R g cap : Nat} {s : ByteArray} {ts : List Lx.Tk} {d B : Nat} {w : World} {l : List Lx.Core} {cs : List Value}

theorem AtB.suf (h : AtB R g cap s ts d B w l cs) {m : List Lx.Core} (hm : m <:+ l) : left ts (ts.length - m.length) = m := suf_left (a := ts.length - l.length) (by rw [h.eq]; exact hm)
theorem AtB.kept (h : AtB R g cap s ts d B w l cs) {w' : World} (k : Kept w w') : AtB R g cap s ts d B w' l cs := ⟨h.rd.kept k, h.eq, h.al, h.box.kept k, h.nR, h.ng⟩
theorem AtB.of {a : Nat} (h : Rd w R g cap s ts a d) (ha : Pp.Alive (left ts a)) (hb : BoxS w B cs) (nR : B ≠ R) (ng : B ≠ g) : AtB R g cap s ts d B w (left ts a) cs := by
  have e := len_left ts a (Nat.le_of_lt (alive_lt ha))
  exact ⟨by rw [e]; exact h, by rw [e], ha, hb, nR, ng⟩

/-- What a step leaves: it failed, or the reader stands behind what was read. -/
def StepR {α : Type} (R g cap : Nat) (s : ByteArray) (ts : List Lx.Tk) (B : Nat) (w : World) (r : Option α) (m : List Lx.Core) (C : α → World → Prop) (e : Ending) (w' : World) : Prop :=
  e = .returned (.bool r.isSome) ∧ Bu (RB R B) w w' ∧ (∃ d', Rd w' R g cap s ts (ts.length - m.length) d') ∧ ∀ x, r = some x → C x w'

theorem name_l (h : AtB R g cap s ts d B w l cs) (o : Nat) (ho : o < cs.length) (r : Option (List UInt8)) (m : List Lx.Core) (hr : Pp.name l = (r, m)) :
    Calls Tryz.prog 87 #[.pointer (some ⟨R, 0, none⟩), .pointer (some ⟨B, o, none⟩)] w fun e w' => StepR R g cap s ts B w r m (fun x w' => AtB R g cap s ts d B w' m (cs.take o ++ [.string (Px.ba x)] ++ cs.drop (o + 1))) e w' := by
  have ha : Pp.Alive (left ts (ts.length - l.length)) := by rw [h.eq]; exact h.al
  have hk := Pp.name_keeps l h.al
  rw [hr] at hk
  refine (pname_any h.rd ha (h.box.there o 1 (by omega)) h.nR h.ng r m (by rw [h.eq]; exact hr)).mono ?_
  rintro e w' ⟨e1, hB, ⟨d', hd, hd'⟩, hV⟩
  refine ⟨e1, hB, ⟨d', hd⟩, fun x hx => ?_⟩
  obtain ⟨vs, rfl, hp⟩ := hV x hx
  obtain rfl := hd' (by rw [hx]; rfl)
  exact ⟨hd, h.suf hk.1, hk.2, h.box.put hp (by simp only [List.length_singleton]; omega) hB.size, h.nR, h.ng⟩
theorem number_l (h : AtB R g cap s ts d B w l cs) (o : Nat) (ho : o < cs.length) (most : Nat) (r : Option Nat) (m : List Lx.Core) (hr : Pp.number most l = (r, m)) :
    Calls Tryz.prog 88 #[.pointer (some ⟨R, 0, none⟩), .pointer (some ⟨B, o, none⟩), .int .i64 (most : Int)] w fun e w' => StepR R g cap s ts B w r m (fun x w' => AtB R g cap s ts d B w' m (cs.take o ++ [.int .i64 (x : Int)] ++ cs.drop (o + 1))) e w' := by
  have ha : Pp.Alive (left ts (ts.length - l.length)) := by rw [h.eq]; exact h.al
  have hk := Pp.number_keeps most l h.al
  rw [hr] at hk
  refine (number_any h.rd ha (h.box.there o 1 (by omega)) h.nR h.ng most r m (by rw [h.eq]; exact hr)).mono ?_
  rintro e w' ⟨e1, hB, ⟨d', hd, hd'⟩, hV⟩
  refine ⟨e1, hB, ⟨d', hd⟩, fun x hx => ?_⟩
  obtain ⟨vs, rfl, hp⟩ := hV x hx
  obtain rfl := hd' (by rw [hx]; rfl)
  exact ⟨hd, h.suf hk.1, hk.2, h.box.put hp (by simp only [List.length_singleton]; omega) hB.size, h.nR, h.ng⟩
theorem expr_l (h : AtB R g cap s ts d B w l cs) (o : Nat) (ho : o + 4 ≤ cs.length) (r : Option Ex) (m : List Lx.Core) (hr : Px.read l = (r, m)) :
    Calls Tryz.prog 111 #[.pointer (some ⟨R, 0, none⟩), .pointer (some ⟨B, o, none⟩)] w fun e w' => StepR R g cap s ts B w r m (fun x w' => ∃ v, AtB R g cap s ts d B w' m (cs.take o ++ x.cells v ++ cs.drop (o + 4)) ∧ ExsIn w' w.heap.size w'.heap.size x.of v) e w' := by
  have ha : Pp.Alive (left ts (ts.length - l.length)) := by rw [h.eq]; exact h.al
  have hk := Pp.read_keeps l h.al
  rw [hr] at hk
  refine (pexpr_any h.rd ha (h.box.there o 4 ho) h.nR h.ng r m (by rw [h.eq]; exact hr)).mono ?_
  rintro e w' ⟨e1, hB, ⟨d', hd, hd'⟩, hV⟩
  refine ⟨e1, hB, ⟨d', hd⟩, fun x hx => ?_⟩
  obtain ⟨vs, ⟨v, rfl, hE⟩, hp⟩ := hV x hx
  obtain rfl := hd' (by rw [hx]; rfl)
  exact ⟨v, ⟨hd, h.suf hk.1, hk.2, h.box.put hp ho hB.size, h.nR, h.ng⟩, hE⟩
/-- skip, in a box's sight. -/
theorem skip_l (h : AtB R g cap s ts d B w l cs) (x : List UInt8) (hx : x ≠ []) (b : Bool) (hb : ((Px.hd l).2.1 == x) = b) :
    Calls Tryz.prog 55 #[.pointer (some ⟨R, 0, none⟩), .string ⟨x.toArray⟩] w fun e w' => e = .returned (.bool b) ∧ Bu (RB R B) w w' ∧ AtB R g cap s ts d B w' (if b then l.tail else l) cs := by
  have ha : Pp.Alive (left ts (ts.length - l.length)) := by rw [h.eq]; exact h.al
  have hp := h.al.pos
  have hle : l.length ≤ ts.length := by have := congrArg List.length h.eq; rw [left_len] at this; omega
  refine (skip_any h.rd ha x b (by rw [h.eq]; exact hb)).mono ?_
  rintro e w' ⟨e1, hB, hd⟩
  have hb1 : BoxS w' B cs := ⟨fun j v hv => by rw [hB.cellE h.box.lt h.nR]; exact h.box.rng j v hv, fun j => (hB.frozenE h.box.lt h.nR j).trans (h.box.fz j), Nat.lt_of_lt_of_le h.box.lt hB.size⟩
  refine ⟨e1, hB.up fun i _ hi => .inl hi, ?_⟩
  cases b with
  | false => exact ⟨hd, h.eq, h.al, hb1, h.nR, h.ng⟩
  | true =>
    have ht : ts.length - l.tail.length = ts.length - l.length + 1 := by rw [List.length_tail]; omega
    have hx' : (Px.hd l).2.1 = x := by simpa using hb
    exact ⟨by rw [if_pos rfl, ht]; exact hd, h.suf (List.tail_suffix _), h.al.tail (.inr (by rw [hx']; exact hx)), hb1, h.nR, h.ng⟩
end

/-- What block answers, with so many more within one another. -/
def PB (e : Nat) : Prop := ∀ (R g cap : Nat) (s : ByteArray) (ts : List Lx.Tk) (a B o : Nat) (w : World), Rd w R g cap s ts a (8 - e) → Pp.Alive (left ts a) → w.cell? ⟨B, o, none⟩ = some (.slice none 0 0) → w.frozen? ⟨B, o, none⟩ = false → B ≠ R → B ≠ g →
  ∀ r m, Pp.block (plOf s ts) e (left ts a) = (r, m) →
  Calls Tryz.prog 56 #[.pointer (some ⟨R, 0, none⟩), .pointer (some ⟨B, o, none⟩)] w fun e' w' => Into R g cap s ts (8 - e) B o (fun w' (x : List St) vs => ∃ v, vs = [v] ∧ StsIn w' w.heap.size w'.heap.size x v) w r m e' w'
section
variable {R g cap : Nat} {s : ByteArray} {ts : List Lx.Tk} {e B : Nat} {w : World} {l : List Lx.Core} {cs : List Value}
theorem block_l (H : PB e) (h : AtB R g cap s ts (8 - e) B w l cs) (o : Nat) (ho : cs[o]? = some (.slice none 0 0)) (r : Option (List St)) (m : List Lx.Core) (hr : Pp.block (plOf s ts) e l = (r, m)) :
    Calls Tryz.prog 56 #[.pointer (some ⟨R, 0, none⟩), .pointer (some ⟨B, o, none⟩)] w fun e' w' => StepR R g cap s ts B w r m (fun x w' => ∃ v, AtB R g cap s ts (8 - e) B w' m (cs.take o ++ [v] ++ cs.drop (o + 1)) ∧ StsIn w' w.heap.size w'.heap.size x v) e' w' := by
  have ha : Pp.Alive (left ts (ts.length - l.length)) := by rw [h.eq]; exact h.al
  have hk := Pp.block_keeps (plOf s ts) e l h.al
  rw [hr] at hk
  have ho' : o < cs.length := (List.getElem?_eq_some_iff.1 ho).1
  refine (H R g cap s ts _ B o w h.rd ha (h.box.cell o ho) (h.box.fz o) h.nR h.ng r m (by rw [h.eq]; exact hr)).mono ?_
  rintro e' w' ⟨e1, hB, ⟨d', hd, hd'⟩, hV⟩
  refine ⟨e1, hB, ⟨d', hd⟩, fun x hx => ?_⟩
  obtain ⟨vs, ⟨v, rfl, hS⟩, hp⟩ := hV x hx
  obtain rfl := hd' (by rw [hx]; rfl)
  exact ⟨v, ⟨hd, h.suf hk.1, hk.2, h.box.put hp (by simp only [List.length_singleton]; omega) hB.size, h.nR, h.ng⟩, hS⟩
end
/-- A box that holds nothing but a kind and a place. -/
abbrev z11 (k : Int) (X Y : Nat) : List Value := [.int .i64 k, .string ⟨#[]⟩, .string ⟨#[]⟩, .int .i64 0, .int .i64 0, .int .i64 0, .string ⟨#[]⟩, .slice none 0 0, .slice none 0 0, .slice none 0 0, .complex .f64 X Y]
theorem StsD.nil (w : World) (D : Nat → Prop) : StsD w D [] (.slice none 0 0) :=
  .mk [] none 0 (fun _ => undef) (fun _ => undef) (fun _ => undef) ⟨Nat.le_refl _, Nat.zero_le _, fun _ => rfl⟩ (fun i h => by simp at h) (fun i h => by simp at h) (fun i h => by simp at h) (fun i h => by simp at h)

/-- What a statement's reading leaves. -/
def EndS (R g cap : Nat) (s : ByteArray) (ts : List Lx.Tk) (d B : Nat) (w : World) (r : Option St) (m : List Lx.Core) (e : Ending) (w' : World) : Prop :=
  StepR R g cap s ts B w r m (fun x w' => ∃ ev bv lv, AtB R g cap s ts d B w' m (x.cells ev bv lv) ∧ (Item.mk x ev bv lv).InD w' (Rng w.heap.size w'.heap.size)) e w'
section
variable {R g cap : Nat} {s : ByteArray} {ts : List Lx.Tk} {d B : Nat} {w w1 : World} {m : List Lx.Core}
theorem EndS.fail (hB : Bu (RB R B) w w1) (hR : ∃ d', Rd w1 R g cap s ts (ts.length - m.length) d') : EndS R g cap s ts d B w none m (.returned (.bool false)) w1 := ⟨rfl, hB, hR, fun x hx => by cases hx⟩
theorem EndS.done {x : St} {ev bv lv : Value} (hB : Bu (RB R B) w w1) (hA : AtB R g cap s ts d B w1 m (x.cells ev bv lv)) (hI : (Item.mk x ev bv lv).InD w1 (Rng w.heap.size w1.heap.size)) : EndS R g cap s ts d B w (some x) m (.returned (.bool true)) w1 :=
  ⟨rfl, hB, ⟨d, hA.rd⟩, fun y hy => by injection hy with hy; subst hy; exact ⟨ev, bv, lv, hA, hI⟩⟩
end
theorem tree_on {R B : Nat} {w w1 w2 : World} (hRB : R < w.heap.size ∧ B < w.heap.size) (h : Bu (RB R B) w1 w2) {P : World → (Nat → Prop) → Prop} (hs : ∀ D, StaysD D w1 w2 → P w1 D → P w2 D) (hm : ∀ D D' : Nat → Prop, (∀ k, D k → D' k) → P w2 D → P w2 D') (lo : Nat) (hlo : w.heap.size ≤ lo) (hp : P w1 (Rng lo w1.heap.size)) : P w2 (Rng w.heap.size w2.heap.size) := by
  refine hm _ _ (Rng.up hlo h.size) (hs _ (h.stays fun k hk => ⟨hk.2, ?_⟩) hp)
  rintro (rfl | rfl)
  · have := hk.1; omega
  · have := hk.1; omega
theorem exs_on {R B : Nat} {w w1 w2 : World} (hRB : R < w.heap.size ∧ B < w.heap.size) (h : Bu (RB R B) w1 w2) {l : List Ex} {v : Value} {lo : Nat} (hlo : w.heap.size ≤ lo) (hp : ExsIn w1 lo w1.heap.size l v) : ExsIn w2 w.heap.size w2.heap.size l v :=
  tree_on hRB h (P := fun w D => ExsD w D l v) (fun _ hs hp => hp.stays hs) (fun _ _ hk hp => hp.mono hk) lo hlo hp
theorem sts_on {R B : Nat} {w w1 w2 : World} (hRB : R < w.heap.size ∧ B < w.heap.size) (h : Bu (RB R B) w1 w2) {l : List St} {v : Value} {lo : Nat} (hlo : w.heap.size ≤ lo) (hp : StsIn w1 lo w1.heap.size l v) : StsIn w2 w.heap.size w2.heap.size l v :=
  tree_on hRB h (P := fun w D => StsD w D l v) (fun _ hs hp => hp.stays hs) (fun _ _ hk hp => hp.mono hk) lo hlo hp

/-- What behind answers, with so many blocks more within one another. -/
def PBe (e : Nat) (k : Int) (p : Pp.R St) (X Y : Nat) (s : ByteArray) (ts : List Lx.Tk) : Prop := ∀ (R g cap B : Nat) (w : World) (l : List Lx.Core), AtB R g cap s ts (8 - e) B w l (z11 k X Y) →
  ∀ r m, p l = (r, m) → Calls Tryz.prog 112 #[.pointer (some ⟨R, 0, none⟩), .pointer (some ⟨B, 0, none⟩)] w fun e' w' => EndS R g cap s ts (8 - e) B w r m e' w'

set_option maxRecDepth 100000 in
set_option maxHeartbeats 1000000 in
theorem behind_send (e X Y : Nat) (s : ByteArray) (ts : List Lx.Tk) : PBe e 4 (Pp.bind Pp.name fun a => Pp.bind Px.read fun x => Pp.ret (.mk 4 (Px.ba a) Px.e0 0 x [] [] X Y)) X Y s ts := by
  intro R g cap B w l h r m hr
  obtain ⟨r1, m1, h1⟩ : ∃ r1 m1, Pp.name l = (r1, m1) := ⟨_, _, rfl⟩
  have HC := hide (name_l h 1 (by simp) r1 m1 h1)
  have hRB : R < w.heap.size ∧ B < w.heap.size := ⟨h.rd.rlt, h.box.lt⟩
  have b0 := h.box.cell 0 rfl
  have bf := h.box.fz 0
  have hBl := h.box.lt
  clear h
  go_enter Tryz.func112, Tryz.ntmps112
  go_wp2_with fail
  refine (unhide HC).mono ?_
  rintro e' w1 ⟨rfl, hB1, hR1, hV1⟩
  cases r1 with
  | none =>
    rw [Pp.bind_none h1] at hr
    injection hr with e1 e2
    subst e1 e2
    have H := hide (EndS.fail (d := 8 - e) hB1 hR1)
    clear hB1 hR1 hV1 HC
    go_wp2_with fail
    go_ret
    exact unhide H
  | some x =>
    have hA1 := hV1 x rfl
    rw [Pp.bind_some h1] at hr
    obtain ⟨r2, m2, h2⟩ : ∃ r2 m2, Px.read m1 = (r2, m2) := ⟨_, _, rfl⟩
    have HC2 := hide (expr_l hA1 4 (by simp) r2 m2 h2)
    have HB1 := hide hB1
    clear hV1 hR1 hB1 hA1 HC
    go_wp2_with fail
    refine (unhide HC2).mono ?_
    rintro e' w2 ⟨rfl, hB2, hR2, hV2⟩
    have hB := (unhide HB1).then hB2
    cases r2 with
    | none =>
      rw [Pp.bind_none h2] at hr
      injection hr with e1 e2
      subst e1 e2
      have H := hide (EndS.fail (d := 8 - e) hB hR2)
      clear hB2 hR2 hV2 HC2 hB
      go_wp2_with fail
      go_ret
      exact unhide H
    | some y =>
      obtain ⟨v, hA2, hE⟩ := hV2 y rfl
      rw [Pp.bind_some h2] at hr
      injection hr with e1 e2
      subst e1 e2
      have H := hide (EndS.done (x := .mk 4 (Px.ba x) Px.e0 0 y [] [] X Y) hB hA2 ⟨hE.mono (Rng.up (unhide HB1).size (Nat.le_refl _)), StsD.nil _ _, StsD.nil _ _⟩)
      clear hB2 hR2 hV2 HC2 hB hA2 hE
      go_wp2_with fail
      go_ret
      exact unhide H
end Go.Proofs.YtkobdephobaopaaGreatDoor

namespace Go.Proofs.YtkobdephobaopaaGreatDoor
open Go.RowKit
attribute [local go_sem] run_store_complex field_kind field_text field_place

set_option maxRecDepth 100000 in
set_option maxHeartbeats 1000000 in
theorem behind_recv (e X Y : Nat) (s : ByteArray) (ts : List Lx.Tk) : PBe e 5 (Pp.bind Pp.name fun a => Pp.bind Pp.name fun b => Pp.ret (.mk 5 (Px.ba a) (Px.ba b) 0 ex0 [] [] X Y)) X Y s ts := by
  intro R g cap B w l h r m hr
  obtain ⟨r1, m1, h1⟩ : ∃ r m, Pp.name l = (r, m) := ⟨_, _, rfl⟩
  have HC1 := hide (name_l h 1 (by simp) r1 m1 h1)
  have hRB : R < w.heap.size ∧ B < w.heap.size := ⟨h.rd.rlt, h.box.lt⟩
  have b0 := h.box.cell 0 rfl
  have bf := h.box.fz 0
  have hBl := h.box.lt
  clear h
  go_enter Tryz.func112, Tryz.ntmps112
  go_wp2_with fail
  refine (unhide HC1).mono ?_
  rintro e' w1 ⟨rfl, hB1, hR1, hV1⟩
  have HB1 := hide (hB1)
  cases r1 with
  | none =>
    rw [Pp.bind_none h1] at hr
    injection hr with e1 e2
    subst e1 e2
    have HE := hide (EndS.fail (d := 8 - e) (unhide HB1) hR1)
    clear hB1 hR1 hV1 HC1
    go_wp2_with fail
    go_ret
    exact unhide HE
  | some x =>
    rw [Pp.bind_some h1] at hr
    have hA1 := hV1 x rfl
    obtain ⟨r2, m2, h2⟩ : ∃ r m, Pp.name m1 = (r, m) := ⟨_, _, rfl⟩
    have HC2 := hide (name_l hA1 2 (by simp) r2 m2 h2)
    clear hV1 hR1 hB1 hA1 HC1
    go_wp2_with fail
    refine (unhide HC2).mono ?_
    rintro e' w2 ⟨rfl, hB2, hR2, hV2⟩
    have HB2 := hide ((unhide HB1).then hB2)
    cases r2 with
    | none =>
      rw [Pp.bind_none h2] at hr
      injection hr with e1 e2
      subst e1 e2
      have HE := hide (EndS.fail (d := 8 - e) (unhide HB2) hR2)
      clear hB2 hR2 hV2 HC2
      go_wp2_with fail
      go_ret
      exact unhide HE
    | some y =>
      rw [Pp.bind_some h2] at hr
      have hA2 := hV2 y rfl
      injection hr with e1 e2
      subst e1 e2
      have HE := hide (EndS.done (x := .mk 5 (Px.ba x) (Px.ba y) 0 ex0 [] [] X Y) (unhide HB2) hA2 ⟨ExsD.nil _ _, StsD.nil _ _, StsD.nil _ _⟩)
      clear hB2 hR2 hV2 HC2 hA2
      go_wp2_with fail
      go_ret
      exact unhide HE

set_option maxRecDepth 100000 in
set_option maxHeartbeats 1000000 in
theorem behind_print (e X Y : Nat) (s : ByteArray) (ts : List Lx.Tk) : PBe e 6 (Pp.bind Px.read fun x => Pp.ret (.mk 6 Px.e0 Px.e0 0 x [] [] X Y)) X Y s ts := by
  intro R g cap B w l h r m hr
  obtain ⟨r1, m1, h1⟩ : ∃ r m, Px.read l = (r, m) := ⟨_, _, rfl⟩
  have HC1 := hide (expr_l h 4 (by simp) r1 m1 h1)
  have hRB : R < w.heap.size ∧ B < w.heap.size := ⟨h.rd.rlt, h.box.lt⟩
  have b0 := h.box.cell 0 rfl
  have bf := h.box.fz 0
  have hBl := h.box.lt
  clear h
  go_enter Tryz.func112, Tryz.ntmps112
  go_wp2_with fail
  refine (unhide HC1).mono ?_
  rintro e' w1 ⟨rfl, hB1, hR1, hV1⟩
  have HB1 := hide (hB1)
  cases r1 with
  | none =>
    rw [Pp.bind_none h1] at hr
    injection hr with e1 e2
    subst e1 e2
    have HE := hide (EndS.fail (d := 8 - e) (unhide HB1) hR1)
    clear hB1 hR1 hV1 HC1
    go_wp2_with fail
    go_ret
    exact unhide HE
  | some x =>
    rw [Pp.bind_some h1] at hr
    obtain ⟨v1, hA1, hE1⟩ := hV1 x rfl
    have HE1 := hide hE1
    clear hE1
    injection hr with e1 e2
    subst e1 e2
    have HE := hide (EndS.done (x := .mk 6 Px.e0 Px.e0 0 x [] [] X Y) (unhide HB1) hA1 ⟨(unhide HE1), StsD.nil _ _, StsD.nil _ _⟩)
    clear hB1 hR1 hV1 HC1 hA1
    go_wp2_with fail
    go_ret
    exact unhide HE

set_option maxRecDepth 100000 in
set_option maxHeartbeats 1000000 in
theorem behind_word (k : Nat) (h4 : k ≠ 4) (h5 : k ≠ 5) (h6 : k ≠ 6) (h7 : k ≠ 7) (h8 : k ≠ 8) (e X Y : Nat) (s : ByteArray) (ts : List Lx.Tk) : PBe e (k : Nat) (Pp.bind Pp.name fun a => Pp.ret (.mk (k : Nat) (Px.ba a) Px.e0 0 ex0 [] [] X Y)) X Y s ts := by
  intro R g cap B w l h r m hr
  have g4 := ne_int (k := (k : Int)) (c := 4) (by omega); have g5 := ne_int (k := (k : Int)) (c := 5) (by omega); have g6 := ne_int (k := (k : Int)) (c := 6) (by omega); have g7 := ne_int (k := (k : Int)) (c := 7) (by omega); have g8 := ne_int (k := (k : Int)) (c := 8) (by omega)
  obtain ⟨r1, m1, h1⟩ : ∃ r m, Pp.name l = (r, m) := ⟨_, _, rfl⟩
  have HC1 := hide (name_l h 1 (by simp) r1 m1 h1)
  have hRB : R < w.heap.size ∧ B < w.heap.size := ⟨h.rd.rlt, h.box.lt⟩
  have b0 := h.box.cell 0 rfl
  have bf := h.box.fz 0
  have hBl := h.box.lt
  clear h
  go_enter Tryz.func112, Tryz.ntmps112
  go_wp2_with fail
  refine (unhide HC1).mono ?_
  rintro e' w1 ⟨rfl, hB1, hR1, hV1⟩
  have HB1 := hide (hB1)
  cases r1 with
  | none =>
    rw [Pp.bind_none h1] at hr
    injection hr with e1 e2
    subst e1 e2
    have HE := hide (EndS.fail (d := 8 - e) (unhide HB1) hR1)
    clear hB1 hR1 hV1 HC1
    go_wp2_with fail
    go_ret
    exact unhide HE
  | some x =>
    rw [Pp.bind_some h1] at hr
    have hA1 := hV1 x rfl
    injection hr with e1 e2
    subst e1 e2
    have HE := hide (EndS.done (x := .mk (k : Nat) (Px.ba x) Px.e0 0 ex0 [] [] X Y) (unhide HB1) hA1 ⟨ExsD.nil _ _, StsD.nil _ _, StsD.nil _ _⟩)
    clear hB1 hR1 hV1 HC1 hA1
    go_wp2_with fail
    go_ret
    exact unhide HE

set_option maxRecDepth 100000 in
set_option maxHeartbeats 1000000 in
theorem behind_rep (e X Y : Nat) (H : Hid (PB e)) (s : ByteArray) (ts : List Lx.Tk) : PBe e 8 (Pp.bind (Pp.number 9) fun n => Pp.bind (Pp.block (plOf s ts) e) fun b => Pp.ret (.mk 8 Px.e0 Px.e0 n ex0 b [] X Y)) X Y s ts := by
  intro R g cap B w l h r m hr
  obtain ⟨r1, m1, h1⟩ : ∃ r m, Pp.number 9 l = (r, m) := ⟨_, _, rfl⟩
  have HC1 := hide (number_l h 3 (by simp) 9 r1 m1 h1)
  have hRB : R < w.heap.size ∧ B < w.heap.size := ⟨h.rd.rlt, h.box.lt⟩
  have b0 := h.box.cell 0 rfl
  have bf := h.box.fz 0
  have hBl := h.box.lt
  clear h
  go_enter Tryz.func112, Tryz.ntmps112
  go_wp2_with fail
  refine (unhide HC1).mono ?_
  rintro e' w1 ⟨rfl, hB1, hR1, hV1⟩
  have HB1 := hide (hB1)
  cases r1 with
  | none =>
    rw [Pp.bind_none h1] at hr
    injection hr with e1 e2
    subst e1 e2
    have HE := hide (EndS.fail (d := 8 - e) (unhide HB1) hR1)
    clear hB1 hR1 hV1 HC1
    go_wp2_with fail
    go_ret
    exact unhide HE
  | some x =>
    rw [Pp.bind_some h1] at hr
    have hA1 := hV1 x rfl
    obtain ⟨r2, m2, h2⟩ : ∃ r m, Pp.block (plOf s ts) e m1 = (r, m) := ⟨_, _, rfl⟩
    have HC2 := hide (block_l H.out hA1 8 rfl r2 m2 h2)
    clear hV1 hR1 hB1 hA1 HC1
    go_wp2_with fail
    refine (unhide HC2).mono ?_
    rintro e' w2 ⟨rfl, hB2, hR2, hV2⟩
    have HB2 := hide ((unhide HB1).then hB2)
    cases r2 with
    | none =>
      rw [Pp.bind_none h2] at hr
      injection hr with e1 e2
      subst e1 e2
      have HE := hide (EndS.fail (d := 8 - e) (unhide HB2) hR2)
      clear hB2 hR2 hV2 HC2
      go_wp2_with fail
      go_ret
      exact unhide HE
    | some y =>
      rw [Pp.bind_some h2] at hr
      obtain ⟨v2, hA2, hE2⟩ := hV2 y rfl
      have HE2 := hide hE2
      clear hE2
      injection hr with e1 e2
      subst e1 e2
      have HE := hide (EndS.done (x := .mk 8 Px.e0 Px.e0 x ex0 y [] X Y) (unhide HB2) hA2 ⟨ExsD.nil _ _, (unhide HE2).mono (Rng.up (unhide HB1).size (Nat.le_refl _)), StsD.nil _ _⟩)
      clear hB2 hR2 hV2 HC2 hA2
      go_wp2_with fail
      go_ret
      exact unhide HE

set_option maxRecDepth 100000 in
set_option maxHeartbeats 1000000 in
theorem behind_cond (e X Y : Nat) (H : Hid (PB e)) (s : ByteArray) (ts : List Lx.Tk) : PBe e 7 (Pp.bind Px.read fun x => Pp.bind (Pp.block (plOf s ts) e) fun b => Pp.bind (Pp.other (Pp.block (plOf s ts) e)) fun c => Pp.ret (.mk 7 Px.e0 Px.e0 0 x b c X Y)) X Y s ts := by
  intro R g cap B w l h r m hr
  obtain ⟨r1, m1, h1⟩ : ∃ r m, Px.read l = (r, m) := ⟨_, _, rfl⟩
  have HC1 := hide (expr_l h 4 (by simp) r1 m1 h1)
  have hRB : R < w.heap.size ∧ B < w.heap.size := ⟨h.rd.rlt, h.box.lt⟩
  have b0 := h.box.cell 0 rfl
  have bf := h.box.fz 0
  have hBl := h.box.lt
  clear h
  go_enter Tryz.func112, Tryz.ntmps112
  go_wp2_with fail
  refine (unhide HC1).mono ?_
  rintro e' w1 ⟨rfl, hB1, hR1, hV1⟩
  have HB1 := hide (hB1)
  cases r1 with
  | none =>
    rw [Pp.bind_none h1] at hr
    injection hr with e1 e2
    subst e1 e2
    have HE := hide (EndS.fail (d := 8 - e) (unhide HB1) hR1)
    clear hB1 hR1 hV1 HC1
    go_wp2_with fail
    go_ret
    exact unhide HE
  | some x =>
    rw [Pp.bind_some h1] at hr
    obtain ⟨v1, hA1, hE1⟩ := hV1 x rfl
    have HE1 := hide hE1
    clear hE1
    obtain ⟨r2, m2, h2⟩ : ∃ r m, Pp.block (plOf s ts) e m1 = (r, m) := ⟨_, _, rfl⟩
    have HC2 := hide (block_l H.out hA1 8 rfl r2 m2 h2)
    clear hV1 hR1 hB1 hA1 HC1
    go_wp2_with fail
    refine (unhide HC2).mono ?_
    rintro e' w2 ⟨rfl, hB2, hR2, hV2⟩
    have HB2 := hide ((unhide HB1).then hB2)
    have HB2' := hide hB2
    cases r2 with
    | none =>
      rw [Pp.bind_none h2] at hr
      injection hr with e1 e2
      subst e1 e2
      have HE := hide (EndS.fail (d := 8 - e) (unhide HB2) hR2)
      clear hB2 hR2 hV2 HC2
      go_wp2_with fail
      go_ret
      exact unhide HE
    | some y =>
      rw [Pp.bind_some h2] at hr
      obtain ⟨v2, hA2, hE2⟩ := hV2 y rfl
      have HE2 := hide hE2
      clear hE2
      cases hb : ((Px.hd m2).2.1 == Pp.tElse) with
      | false =>
        have ho : Pp.other (Pp.block (plOf s ts) e) m2 = (some [], m2) := by unfold Pp.other; rw [if_neg (by simpa using hb)]
        rw [Pp.bind_some ho] at hr
        injection hr with e1 e2
        subst e1 e2
        have HC3 := hide (skip_l hA2 Pp.tElse (by decide) false hb)
        clear hV2 hR2 hB2 hA2 HC2
        go_wp2_with fail
        refine (unhide HC3).mono ?_
        rintro e' w3 ⟨rfl, hB3, hA3⟩
        have HE := hide (EndS.done (x := .mk 7 Px.e0 Px.e0 0 x y [] X Y) ((unhide HB2).then hB3) hA3 ⟨exs_on hRB ((unhide HB2' ).then hB3) (Nat.le_refl _) (unhide HE1), sts_on hRB hB3 (unhide HB1).size (unhide HE2), StsD.nil _ _⟩)
        clear hB3 hA3 HC3
        go_wp2_with fail
        go_ret
        exact unhide HE
      | true =>
        obtain ⟨r3, m3, h3⟩ : ∃ r m, Pp.block (plOf s ts) e m2.tail = (r, m) := ⟨_, _, rfl⟩
        have ho : Pp.other (Pp.block (plOf s ts) e) m2 = (r3, m3) := by unfold Pp.other; rw [if_pos (by simpa using hb)]; exact h3
        have HC3 := hide (skip_l hA2 Pp.tElse (by decide) true hb)
        clear hV2 hR2 hB2 hA2 HC2
        go_wp2_with fail
        refine (unhide HC3).mono ?_
        rintro e' w3 ⟨rfl, hB3, hA3⟩
        have HB3 := hide hB3
        have HC4 := hide (block_l H.out hA3 9 rfl r3 m3 h3)
        clear hB3 hA3 HC3
        go_wp2_with fail
        refine (unhide HC4).mono ?_
        rintro e' w4 ⟨rfl, hB4, hR4, hV4⟩
        have hB := (unhide HB2).then ((unhide HB3).then hB4)
        cases r3 with
        | none =>
          rw [Pp.bind_none ho] at hr
          injection hr with e1 e2
          subst e1 e2
          have HE := hide (EndS.fail (d := 8 - e) hB hR4)
          clear hB hR4 hV4 HC4 hB4
          go_wp2_with fail
          go_ret
          exact unhide HE
        | some z =>
          rw [Pp.bind_some ho] at hr
          injection hr with e1 e2
          subst e1 e2
          obtain ⟨v4, hA4, hE4⟩ := hV4 z rfl
          have HE := hide (EndS.done (x := .mk 7 Px.e0 Px.e0 0 x y z X Y) hB hA4 ⟨exs_on hRB ((unhide HB2').then ((unhide HB3).then hB4)) (Nat.le_refl _) (unhide HE1), sts_on hRB ((unhide HB3).then hB4) (unhide HB1).size (unhide HE2), hE4.mono (Rng.up (by have h1 := (unhide HB2).size; have h2 := (unhide HB3).size; omega) (Nat.le_refl _))⟩)
          clear hB hR4 hV4 HC4 hB4 hA4 hE4
          go_wp2_with fail
          go_ret
          exact unhide HE

theorem behind_any (e : Nat) (H : PB e) (s : ByteArray) (ts : List Lx.Tk) (k : Nat) (p : Nat × Nat) : PBe e k (Pp.behind (Pp.block (plOf s ts) e) k p) p.1 p.2 s ts := by
  unfold Pp.behind
  by_cases h4 : k = 4
  · subst h4; rw [if_pos rfl]; exact behind_send e p.1 p.2 s ts
  rw [if_neg h4]
  by_cases h5 : k = 5
  · subst h5; rw [if_pos rfl]; exact behind_recv e p.1 p.2 s ts
  rw [if_neg h5]
  by_cases h6 : k = 6
  · subst h6; rw [if_pos rfl]; exact behind_print e p.1 p.2 s ts
  rw [if_neg h6]
  by_cases h7 : k = 7
  · subst h7; rw [if_pos rfl]; exact behind_cond e p.1 p.2 H s ts
  rw [if_neg h7]
  by_cases h8 : k = 8
  · subst h8; rw [if_pos rfl]; exact behind_rep e p.1 p.2 H s ts
  rw [if_neg h8]
  exact behind_word k h4 h5 h6 h7 h8 e p.1 p.2 s ts
end Go.Proofs.YtkobdephobaopaaGreatDoor

namespace Go.Proofs.YtkobdephobaopaaGreatDoor
open Go.RowKit
attribute [local go_sem] run_store_complex field_kind field_text field_place
attribute [local go_sem ↓] Go.wp_at_zero Go.wp_at_succ

theorem AtB.set {R g cap : Nat} {s : ByteArray} {ts : List Lx.Tk} {d B : Nat} {w : World} {l : List Lx.Core} {cs : List Value} (h : AtB R g cap s ts d B w l cs) (j : Nat) (v : Value) (hj : j < cs.length) : AtB R g cap s ts d B (w.setCell ⟨B, j, none⟩ v) l (cs.take j ++ [v] ++ cs.drop (j + 1)) :=
  ⟨h.rd.put h.nR h.ng v, h.eq, h.al, h.box.set j [v] (by simp only [List.length_singleton]; omega), h.nR, h.ng⟩
theorem BoxS.off {w w' : World} {B : Nat} {cs : List Value} (h : BoxS w B cs) (e : w'.heap[B]? = w.heap[B]?) (hs : w.heap.size ≤ w'.heap.size) : BoxS w' B cs :=
  ⟨fun j v hv => by rw [World.cell?_of_block (w := w) (a := ⟨B, 0 + j, none⟩) e]; exact h.rng j v hv, fun j => by rw [World.frozen?_of_block (w := w) (a := ⟨B, j, none⟩) e]; exact h.fz j, Nat.lt_of_lt_of_le h.lt hs⟩
/-- Stepped over the next token. -/
theorem AtB.step {R g cap : Nat} {s : ByteArray} {ts : List Lx.Tk} {d B : Nat} {w : World} {l : List Lx.Core} {cs : List Value} (h : AtB R g cap s ts d B w l cs) (hn : (Px.hd l).2.1 ≠ []) : AtB R g cap s ts d B (w.setCell ⟨R, 1, none⟩ (.int .i64 (((ts.length - l.length : Nat) : Int) + 1))) l.tail cs := by
  have hp := h.al.pos
  have hle : l.length ≤ ts.length := by have := congrArg List.length h.eq; rw [left_len] at this; omega
  have ht : ts.length - l.tail.length = ts.length - l.length + 1 := by rw [List.length_tail]; omega
  refine ⟨?_, h.suf (List.tail_suffix _), h.al.tail (.inr hn), h.box.off (heap_setCells R [_] 1 w B h.nR) (Nat.le_of_eq (setCell_size ..).symm), h.nR, h.ng⟩
  rw [ht]
  exact h.rd.at' (ts.length - l.length + 1) (by omega)

/-- What statement answers, with so many blocks more within one another. -/
def PSt (e : Nat) : Prop := ∀ (R g cap B : Nat) (s : ByteArray) (ts : List Lx.Tk) (w : World) (l : List Lx.Core), AtB R g cap s ts (8 - e) B w l (z11 0 0 0) →
  ∀ r m, Pp.stmt (plOf s ts) (Pp.block (plOf s ts) e) l = (r, m) → Calls Tryz.prog 89 #[.pointer (some ⟨R, 0, none⟩), .pointer (some ⟨B, 0, none⟩)] w fun e' w' => EndS R g cap s ts (8 - e) B w r m e' w'

set_option maxRecDepth 100000 in
set_option maxHeartbeats 1000000 in
theorem statement_of (e : Nat) (H : PB e) : PSt e := by
  intro R g cap B s ts w l h r m hr
  have HH : Hid (PB e) := H
  have HA := hide h
  have hlt := alive_lt (ts := ts) (a := ts.length - l.length) (by rw [h.eq]; exact h.al)
  obtain ⟨kd, tx, n, ht⟩ : ∃ kd tx n, Px.hd l = (kd, tx, n) := ⟨_, _, _, rfl⟩
  have HT := hide (ptoken_any (kd := kd) (tx := tx) (n := n) h.rd hlt (by rw [h.eq]; exact ht))
  rw [h.eq] at HT
  have HR := hide hr
  have HTT := hide ht
  have HSK := hide (fun W => stmtKind_any tx W)
  obtain ⟨X, Y, hXY⟩ : ∃ X Y, plOf s ts l.length = (X, Y) := ⟨_, _, rfl⟩
  have HXY := hide hXY
  rw [hXY] at HT
  obtain ⟨tb, htb⟩ : ∃ tb : ByteArray, ⟨tx.toArray⟩ = tb := ⟨_, rfl⟩
  rw [htb] at HT HSK
  have b0 := h.box.cell 0 rfl
  have b10 := h.box.cell 10 rfl
  have f0 := h.box.fz 0
  have f10 := h.box.fz 10
  have hBl := h.box.lt
  have hRl := h.rd.rlt
  have hBR := h.nR
  obtain ⟨k, hk⟩ : ∃ k, Pp.sk tx = k := ⟨_, rfl⟩
  have HK := hide hk
  rw [hk] at HSK
  clear h hr ht hlt hXY htb hk H
  go_enter Tryz.func89, Tryz.ntmps89
  go_wp2_with fail
  refine (unhide HT).mono ?_
  rintro e' w1 ⟨rfl, k1⟩
  obtain ⟨hcc, hff⟩ := bcell k1
  have hz := k1.size
  have K1 := hide k1
  have hB1 : B < w1.heap.size := Nat.lt_of_lt_of_le hBl hz
  have hR1 : R < w1.heap.size := Nat.lt_of_lt_of_le hRl hz
  clear k1
  go_wp2_with fail
  go_region_with (go_at_call 110; refine (unhide HSK _).mono ?_; rintro e w' ⟨rfl, rfl⟩)
  all_goals
    obtain ⟨W2, hW2⟩ : ∃ W2, (((w1.setCell ⟨B, 0, none⟩ (.int .i64 (k : Int))).setCell ⟨B, 10, none⟩ (.complex .f64 X Y)).alloc (.cells #[.int .i64 (kd : Int), .string tb, .int .i64 (n : Int), .complex .f64 X Y] 68)).drew = W2 := ⟨_, rfl⟩
    have hA2 : AtB R g cap s ts (8 - e) B W2 l (z11 k X Y) := by
      rw [← hW2]
      exact ((((unhide HA).kept (unhide K1)).set 0 (.int .i64 (k : Int)) (by simp)).set 10 (.complex .f64 X Y) (by simp)).kept ((Kept.refl _).al _).dr
    have hB2 : Bu (RB R B) w W2 := by
      rw [← hW2]
      exact ((((Bu.of (unhide K1)).set (.inl (.inr rfl)) 0 _).set (.inl (.inr rfl)) 10 _).al _).dr
    rw [hW2]
    clear hW2 hcc hff hz hB1 hR1 b0 b10 f0 f10
    have c0 := hA2.box.cell 0 rfl
    have cf := hA2.box.fz 0
    have HB2 := hide hB2
    by_cases hk1 : k = 1
    · subst hk1
      have hr := unhide HR
      unfold Pp.stmt at hr
      rw [unhide HTT, if_pos (unhide HK), unhide HXY] at hr
      unfold Pp.assign at hr
      obtain ⟨r1, m1, h1⟩ : ∃ r m, Pp.name l = (r, m) := ⟨_, _, rfl⟩
      have HC1 := hide (name_l hA2 1 (by simp) r1 m1 h1)
      clear hA2 hB2
      go_wp2_with fail
      refine (unhide HC1).mono ?_
      rintro e' w3 ⟨rfl, hB3, hR3, hV3⟩
      have HB3 := hide ((unhide HB2).then hB3)
      cases r1 with
      | none =>
        rw [Pp.bind_none h1] at hr
        injection hr with e1 e2
        subst e1 e2
        have HE := hide (EndS.fail (d := 8 - e) (unhide HB3) hR3)
        clear hB3 hR3 hV3 HC1
        go_wp2_with fail
        go_ret
        exact unhide HE
      | some x =>
        rw [Pp.bind_some h1] at hr
        have hA3 := hV3 x rfl
        cases hb : ((Px.hd m1).2.1 == Pp.tIs) with
        | false =>
          have ho : Pp.skip Pp.tIs m1 = (none, m1) := by unfold Pp.skip; rw [if_neg (by simpa using hb)]
          rw [Pp.bind_none ho] at hr
          injection hr with e1 e2
          subst e1 e2
          have HC2 := hide (skip_l hA3 Pp.tIs (by decide) false hb)
          clear hB3 hR3 hV3 HC1 hA3
          go_wp2_with fail
          refine (unhide HC2).mono ?_
          rintro e' w4 ⟨rfl, hB4, hA4⟩
          have HE := hide (EndS.fail (d := 8 - e) ((unhide HB3).then hB4) ⟨_, hA4.rd⟩)
          clear hB4 hA4 HC2
          go_wp2_with fail
          go_ret
          exact unhide HE
        | true =>
          have ho : Pp.skip Pp.tIs m1 = (some (), m1.tail) := by unfold Pp.skip; rw [if_pos (by simpa using hb)]
          rw [Pp.bind_some ho] at hr
          have HC2 := hide (skip_l hA3 Pp.tIs (by decide) true hb)
          clear hB3 hR3 hV3 HC1 hA3
          go_wp2_with fail
          refine (unhide HC2).mono ?_
          rintro e' w4 ⟨rfl, hB4, hA4⟩
          have HB4 := hide ((unhide HB3).then hB4)
          obtain ⟨r5, m5, h5⟩ : ∃ r m, Px.read m1.tail = (r, m) := ⟨_, _, rfl⟩
          have HC5 := hide (expr_l hA4 4 (by simp) r5 m5 h5)
          clear hB4 hA4 HC2
          go_wp2_with fail
          refine (unhide HC5).mono ?_
          rintro e' w5 ⟨rfl, hB5, hR5, hV5⟩
          have HB5 := hide ((unhide HB4).then hB5)
          cases r5 with
          | none =>
            rw [Pp.bind_none h5] at hr
            injection hr with e1 e2
            subst e1 e2
            have HE := hide (EndS.fail (d := 8 - e) (unhide HB5) hR5)
            clear hB5 hR5 hV5 HC5
            go_wp2_with fail
            go_ret
            exact unhide HE
          | some y =>
            rw [Pp.bind_some h5] at hr
            injection hr with e1 e2
            subst e1 e2
            obtain ⟨v, hA5, hE⟩ := hV5 y rfl
            have HE := hide (EndS.done (x := .mk 1 (Px.ba x) Px.e0 0 y [] [] X Y) (unhide HB5) hA5 ⟨hE.mono (Rng.up (unhide HB4).size (Nat.le_refl _)), StsD.nil _ _, StsD.nil _ _⟩)
            clear hB5 hR5 hV5 HC5 hA5 hE
            go_wp2_with fail
            go_ret
            exact unhide HE
    · have hk1' : ((k : Int) == 1) = false := ne_int (by omega)
      have hr := unhide HR
      unfold Pp.stmt at hr
      have hks : Pp.sk (Px.hd l).2.1 = k := by rw [unhide HTT]; exact unhide HK
      rw [hks, if_neg hk1, unhide HXY] at hr
      have hne : (Px.hd l).2.1 ≠ [] := Pp.sk_ne (by rw [hks]; exact hk1)
      have hA3 := hA2.step hne
      have HC := hide (behind_any e (unhide HH) s ts k (X, Y) R g cap B _ l.tail hA3 r m hr)
      have HB3 := hide ((unhide HB2).set (.inl (.inl rfl)) 1 (.int .i64 (((ts.length - l.length : Nat) : Int) + 1)))
      obtain ⟨r0, r1, r2, rz1, rz2, -⟩ := hA2.rd
      have hfew : ((ts.length - l.length : Nat) : Int) ≤ 6001 := by have := hA2.rd.few; omega
      generalize ts.length - l.length = pos at *
      clear hA2 hB2 hA3 hr hks hne hk1
      go_wp2_with fail
      refine (unhide HC).mono ?_
      rintro e' w4 ⟨rfl, hB4, hR4, hV4⟩
      have HB4 := hide hB4
      have HE : Hid (EndS R g cap s ts (8 - e) B w r m (.returned (.bool r.isSome)) w4) := hide ⟨rfl, (unhide HB3).then hB4, hR4, fun x hx => by
        obtain ⟨ev, bv, lv, h1, h2⟩ := hV4 x hx
        exact ⟨ev, bv, lv, h1, h2.mono (Rng.up (by have := (unhide HB3).size; exact this) (Nat.le_refl _))⟩⟩
      clear hB4 hR4 hV4 HC
      go_wp2_with fail
      go_ret
      exact unhide HE
end Go.Proofs.YtkobdephobaopaaGreatDoor
