/- Programs as trees: plain types, what is alike, the statements in order, names; where they lie in memory, and what keeps them there. -/
import Derived.Test.YteaopephdjoegaaGreatDoorKp
import Derived.Deep.MidRow
import Derived.Below
import Derived.Deep.Draws
namespace Go.Proofs.YteaopephdjoegaaGreatDoor
open Go.RowKit


inductive Ex where
  | mk (kind n : Int) (name : ByteArray) (of : List Ex)
namespace Ex
def kind : Ex → Int | .mk k _ _ _ => k
def n : Ex → Int | .mk _ n _ _ => n
def name : Ex → ByteArray | .mk _ _ s _ => s
def of : Ex → List Ex | .mk _ _ _ l => l
mutual
def same : Ex → Ex → Bool
  | .mk k n s l, .mk k' n' s' l' => (k == k') && ((n == n') && ((s.toList == s'.toList) && sames l l'))
def sames : List Ex → List Ex → Bool
  | [], [] => true
  | a :: l, b :: m => same a b && sames l m
  | [], _ :: _ => false
  | _ :: _, [] => false
end
mutual
def size : Ex → Nat
  | .mk _ _ _ l => 1 + sizes l
def sizes : List Ex → Nat
  | [] => 0
  | a :: l => size a + sizes l
end
mutual
def names : Ex → List ByteArray
  | .mk k _ s l => (if k = 2 then [s] else []) ++ namesL l
def namesL : List Ex → List ByteArray
  | [] => []
  | a :: l => names a ++ namesL l
end
theorem ind {P : Ex → Prop} (h : ∀ e : Ex, (∀ x ∈ e.of, P x) → P e) : ∀ e, P e := by
  intro e
  refine Ex.rec (motive_1 := P) (motive_2 := fun l => ∀ x ∈ l, P x) ?_ ?_ ?_ e
  · intro k n s l hl; exact h _ hl
  · intro x hx; cases hx
  · intro a l ha hl x hx
    rcases List.mem_cons.1 hx with rfl | hx
    · exact ha
    · exact hl x hx
theorem same_eq (a b : Ex) : same a b = ((a.kind == b.kind) && ((a.n == b.n) && ((a.name.toList == b.name.toList) && sames a.of b.of))) := by
  cases a; cases b; rw [same]; rfl
theorem size_eq (a : Ex) : size a = 1 + sizes a.of := by cases a; rw [size]; rfl
theorem names_eq (a : Ex) : names a = (if a.kind = 2 then [a.name] else []) ++ namesL a.of := by cases a; rw [names]; rfl
theorem sames_refl_of (l : List Ex) (h : ∀ x ∈ l, same x x = true) : sames l l = true := by
  induction l with
  | nil => rw [sames]
  | cons a l ih => rw [sames, h a (List.mem_cons_self ..), ih (fun x hx => h x (List.mem_cons_of_mem _ hx))]; rfl
theorem same_refl : ∀ e : Ex, same e e = true := by
  refine ind fun e h => ?_
  rw [same_eq, sames_refl_of _ h]; simp
theorem sames_refl (l : List Ex) : sames l l = true := sames_refl_of l fun x _ => same_refl x
theorem size_pos (a : Ex) : 0 < size a := by rw [size_eq]; omega
theorem sizes_append (l m : List Ex) : sizes (l ++ m) = sizes l + sizes m := by
  induction l with
  | nil => simp [sizes]
  | cons a l ih => simp only [List.cons_append, sizes, ih]; omega
theorem sizes_len (l : List Ex) : l.length ≤ sizes l := by
  induction l with
  | nil => simp
  | cons a l ih => have := size_pos a; simp only [List.length_cons, sizes]; omega
theorem size_mem (l : List Ex) (x : Ex) (h : x ∈ l) : size x ≤ sizes l := by
  induction l with
  | nil => cases h
  | cons a l ih =>
    rcases List.mem_cons.1 h with rfl | h
    · simp only [sizes]; omega
    · have := ih h; simp only [sizes]; omega
theorem namesL_append (l m : List Ex) : namesL (l ++ m) = namesL l ++ namesL m := by
  induction l with
  | nil => simp [namesL]
  | cons a l ih => simp only [List.cons_append, namesL, ih, List.append_assoc]
theorem namesL_len_of (l : List Ex) (h : ∀ x ∈ l, (names x).length ≤ size x) : (namesL l).length ≤ sizes l := by
  induction l with
  | nil => simp [namesL]
  | cons a l ih =>
    have h1 := h a (List.mem_cons_self ..)
    have h2 := ih (fun x hx => h x (List.mem_cons_of_mem _ hx))
    simp only [namesL, sizes, List.length_append]; omega
theorem names_len : ∀ e : Ex, (names e).length ≤ size e := by
  refine ind fun e h => ?_
  have := namesL_len_of _ h
  rw [names_eq, size_eq, List.length_append]
  split <;> simp <;> omega
theorem namesL_len (l : List Ex) : (namesL l).length ≤ sizes l := namesL_len_of l fun x _ => names_len x
/-- Its cells: v is where what it is of lies. -/
def cells (e : Ex) (v : Value) : List Value := [.int .i64 e.kind, .int .i64 e.n, .string e.name, v]
/-- As a value. -/
abbrev val (e : Ex) (v : Value) : Value := .agg #[.int .i64 e.kind, .int .i64 e.n, .string e.name, v]
end Ex

inductive St where
  | mk (kind : Int) (name other : ByteArray) (n : Int) (e : Ex) (body els : List St) (re im : Nat)
namespace St
def kind : St → Int | .mk k _ _ _ _ _ _ _ _ => k
def name : St → ByteArray | .mk _ s _ _ _ _ _ _ _ => s
def other : St → ByteArray | .mk _ _ s _ _ _ _ _ _ => s
def n : St → Int | .mk _ _ _ n _ _ _ _ _ => n
def e : St → Ex | .mk _ _ _ _ e _ _ _ _ => e
def body : St → List St | .mk _ _ _ _ _ l _ _ _ => l
def els : St → List St | .mk _ _ _ _ _ _ l _ _ => l
def re : St → Nat | .mk _ _ _ _ _ _ _ x _ => x
def im : St → Nat | .mk _ _ _ _ _ _ _ _ x => x
mutual
def same : St → St → Bool
  | .mk k s o n e b l _ _, .mk k' s' o' n' e' b' l' _ _ => (k == k') && ((s.toList == s'.toList) && ((o.toList == o'.toList) && ((n == n') && (Ex.same e e' && (sames b b' && sames l l')))))
def sames : List St → List St → Bool
  | [], [] => true
  | a :: l, b :: m => same a b && sames l m
  | [], _ :: _ => false
  | _ :: _, [] => false
end
mutual
/-- How many statements it is, with those within. -/
def size : St → Nat
  | .mk _ _ _ _ _ b l _ _ => 1 + (sizes b + sizes l)
def sizes : List St → Nat
  | [] => 0
  | a :: l => size a + sizes l
end
mutual
def flat : St → List St
  | .mk k s o n e b l x y => .mk k s o n e b l x y :: (flats b ++ flats l)
def flats : List St → List St
  | [] => []
  | a :: l => flat a ++ flats l
end
theorem ind {P : St → Prop} (h : ∀ s : St, (∀ x ∈ s.body, P x) → (∀ x ∈ s.els, P x) → P s) : ∀ s, P s := by
  intro s
  refine St.rec (motive_1 := P) (motive_2 := fun l => ∀ x ∈ l, P x) ?_ ?_ ?_ s
  · intro k s o n e b l x y hb hl; exact h _ hb hl
  · intro x hx; cases hx
  · intro a l ha hl x hx
    rcases List.mem_cons.1 hx with rfl | hx
    · exact ha
    · exact hl x hx
theorem same_eq (a b : St) : same a b = ((a.kind == b.kind) && ((a.name.toList == b.name.toList) && ((a.other.toList == b.other.toList) && ((a.n == b.n) && (Ex.same a.e b.e && (sames a.body b.body && sames a.els b.els)))))) := by
  cases a; cases b; rw [same]; rfl
theorem size_eq (a : St) : size a = 1 + (sizes a.body + sizes a.els) := by cases a; rw [size]; rfl
theorem flat_eq (a : St) : flat a = a :: (flats a.body ++ flats a.els) := by cases a; rw [flat]; rfl
theorem sames_refl_of (l : List St) (h : ∀ x ∈ l, same x x = true) : sames l l = true := by
  induction l with
  | nil => rw [sames]
  | cons a l ih => rw [sames, h a (List.mem_cons_self ..), ih (fun x hx => h x (List.mem_cons_of_mem _ hx))]; rfl
theorem same_refl : ∀ e : St, same e e = true := by
  refine ind fun e h h' => ?_
  rw [same_eq, sames_refl_of _ h, sames_refl_of _ h', Ex.same_refl]; simp
theorem sames_refl (l : List St) : sames l l = true := sames_refl_of l fun x _ => same_refl x
theorem size_pos (a : St) : 0 < size a := by rw [size_eq]; omega
theorem sizes_append (l m : List St) : sizes (l ++ m) = sizes l + sizes m := by
  induction l with
  | nil => simp [sizes]
  | cons a l ih => simp only [List.cons_append, sizes, ih]; omega
theorem sizes_len (l : List St) : l.length ≤ sizes l := by
  induction l with
  | nil => simp
  | cons a l ih => have := size_pos a; simp only [List.length_cons, sizes]; omega
theorem size_mem (l : List St) (x : St) (h : x ∈ l) : size x ≤ sizes l := by
  induction l with
  | nil => cases h
  | cons a l ih =>
    rcases List.mem_cons.1 h with rfl | h
    · simp only [sizes]; omega
    · have := ih h; simp only [sizes]; omega
theorem flats_append (l m : List St) : flats (l ++ m) = flats l ++ flats m := by
  induction l with
  | nil => simp [flats]
  | cons a l ih => simp only [List.cons_append, flats, ih, List.append_assoc]
theorem flats_len_of (l : List St) (h : ∀ x ∈ l, (flat x).length = size x) : (flats l).length = sizes l := by
  induction l with
  | nil => simp [flats, sizes]
  | cons a l ih =>
    have h1 := h a (List.mem_cons_self ..)
    have h2 := ih (fun x hx => h x (List.mem_cons_of_mem _ hx))
    simp only [flats, sizes, List.length_append]; omega
theorem flat_len : ∀ e : St, (flat e).length = size e := by
  refine ind fun e h h' => ?_
  have h1 := flats_len_of _ h
  have h2 := flats_len_of _ h'
  rw [flat_eq, size_eq, List.length_cons, List.length_append]
  omega
theorem flats_len (l : List St) : (flats l).length = sizes l := flats_len_of l fun x _ => flat_len x
/-- Its cells: ev, bv, lv: where what E is of, Body and Else lie. -/
def cells (s : St) (ev bv lv : Value) : List Value := [.int .i64 s.kind, .string s.name, .string s.other, .int .i64 s.n, .int .i64 s.e.kind, .int .i64 s.e.n, .string s.e.name, ev, bv, lv, .complex .f64 s.re s.im]
/-- As a value. -/
abbrev val (s : St) (ev bv lv : Value) : Value := .agg #[.int .i64 s.kind, .string s.name, .string s.other, .int .i64 s.n, .int .i64 s.e.kind, .int .i64 s.e.n, .string s.e.name, ev, bv, lv, .complex .f64 s.re s.im]
end St

structure Dc where
  kind : Int
  name : ByteArray
  n : Int
  re : Nat
  im : Nat
namespace Dc
def same (a b : Dc) : Bool := (a.kind == b.kind) && ((a.name.toList == b.name.toList) && (a.n == b.n))
def sames : List Dc → List Dc → Bool
  | [], [] => true
  | a :: l, b :: m => same a b && sames l m
  | [], _ :: _ => false
  | _ :: _, [] => false
theorem same_refl (a : Dc) : same a a = true := by simp [same]
theorem sames_refl (l : List Dc) : sames l l = true := by
  induction l with
  | nil => rw [sames]
  | cons a l ih => rw [sames, same_refl, ih]; rfl
def cells (d : Dc) : List Value := [.int .i64 d.kind, .string d.name, .int .i64 d.n, .complex .f64 d.re d.im]
abbrev val (d : Dc) : Value := .agg #[.int .i64 d.kind, .string d.name, .int .i64 d.n, .complex .f64 d.re d.im]
end Dc

/-- Threads that are alike. -/
def sameTs : List (List St) → List (List St) → Bool
  | [], [] => true
  | a :: l, b :: m => St.sames a b && sameTs l m
  | [], _ :: _ => false
  | _ :: _, [] => false
theorem sameTs_refl (l : List (List St)) : sameTs l l = true := by
  induction l with
  | nil => rw [sameTs]
  | cons a l ih => rw [sameTs, St.sames_refl, ih]; rfl

/-! ### Where they lie -/
/-- n items of sz cells each lie behind a, item i as c i, in a block of D that may be written. -/
def RowAt (w : World) (D : Nat → Prop) (a : Option Addr) (n sz : Nat) (c : Nat → List Value) : Prop :=
  ∀ i, i < n → ∃ b o, a = some ⟨b, o, none⟩ ∧ D b ∧ (∀ j, w.frozen? ⟨b, j, none⟩ = false) ∧ w.rangeAt b (o + i * sz) (c i)

/-- The blocks of D are as they were. -/
def StaysD (D : Nat → Prop) (w w' : World) : Prop := ∀ k, D k → w'.heap[k]? = w.heap[k]?
/-- From lo on, below hi. -/
abbrev Rng (lo hi : Nat) : Nat → Prop := fun k => lo ≤ k ∧ k < hi
abbrev Stays (lo hi : Nat) (w w' : World) : Prop := StaysD (Rng lo hi) w w'
theorem StaysD.refl (D : Nat → Prop) (w : World) : StaysD D w w := fun _ _ => rfl
theorem StaysD.trans {D : Nat → Prop} {a b c : World} (h : StaysD D a b) (k : StaysD D b c) : StaysD D a c := fun i h1 => (k i h1).trans (h i h1)
theorem StaysD.mono {D D' : Nat → Prop} {w w' : World} (h : StaysD D w w') (h1 : ∀ k, D' k → D k) : StaysD D' w w' := fun k a => h k (h1 k a)
theorem Stays.of_below {lo hi B : Nat} {w w' : World} (h : Below B w w') (hB : hi ≤ B) : Stays lo hi w w' := fun k ⟨_, h2⟩ => h.block k (by omega)

theorem RowAt.stays {w w' : World} {D : Nat → Prop} {a : Option Addr} {n sz : Nat} {c : Nat → List Value} (h : RowAt w D a n sz c) (hs : StaysD D w w') : RowAt w' D a n sz c := by
  intro i hi'
  obtain ⟨b, o, ha, h1, hf, hr⟩ := h i hi'
  have hb := hs b h1
  refine ⟨b, o, ha, h1, fun j => ?_, fun j v hv => ?_⟩
  · rw [World.frozen?_of_block (w := w) (a := ⟨b, j, none⟩) hb]; exact hf j
  · rw [World.cell?_of_block (w := w) (a := ⟨b, o + i * sz + j, none⟩) hb]; exact hr j v hv
theorem RowAt.mono {w : World} {D D' : Nat → Prop} {a : Option Addr} {n sz : Nat} {c : Nat → List Value} (h : RowAt w D a n sz c) (h1 : ∀ k, D k → D' k) : RowAt w D' a n sz c := by
  intro i hi'
  obtain ⟨b, o, ha, k1, r⟩ := h i hi'
  exact ⟨b, o, ha, h1 _ k1, r⟩

/-- What a slice is, beside its items: as long as it says, nil only where it is empty. -/
structure Slc (a : Option Addr) (n cap : Nat) : Prop where
  le : n ≤ cap
  big : cap ≤ maxLen
  nil : a = none → cap = 0

def ex0 : Ex := .mk 0 0 ⟨#[]⟩ []
def st0 : St := .mk 0 ⟨#[]⟩ ⟨#[]⟩ 0 ex0 [] [] 0 0
def dc0 : Dc := ⟨0, ⟨#[]⟩, 0, 0, 0⟩

/-- Expressions l lie in memory, in blocks of D, as the slice v says. -/
inductive ExsD (w : World) (D : Nat → Prop) : List Ex → Value → Prop where
  | mk (l : List Ex) (a : Option Addr) (cap : Nat) (f : Nat → Value) (hl : Slc a l.length cap)
    (hc : RowAt w D a l.length 4 (fun i => (l.getD i ex0).cells (f i)))
    (hk : ∀ i (h : i < l.length), ExsD w D l[i].of (f i)) : ExsD w D l (.slice a l.length cap)
abbrev ExsIn (w : World) (lo hi : Nat) := ExsD w (Rng lo hi)

theorem ExsD.stays {w w' : World} {D : Nat → Prop} {l : List Ex} {v : Value} (h : ExsD w D l v) (hs : StaysD D w w') : ExsD w' D l v := by
  induction h with
  | mk l a cap f hl hc _ ih => exact .mk l a cap f hl (hc.stays hs) ih
theorem ExsD.mono {w : World} {D D' : Nat → Prop} {l : List Ex} {v : Value} (h : ExsD w D l v) (h1 : ∀ k, D k → D' k) : ExsD w D' l v := by
  induction h with
  | mk l a cap f hl hc _ ih => exact .mk l a cap f hl (hc.mono h1) ih

/-- Statements l lie in memory, as the slice v says. -/
inductive StsD (w : World) (D : Nat → Prop) : List St → Value → Prop where
  | mk (l : List St) (a : Option Addr) (cap : Nat) (f g h : Nat → Value) (hl : Slc a l.length cap)
    (hc : RowAt w D a l.length 11 (fun i => (l.getD i st0).cells (f i) (g i) (h i)))
    (he : ∀ i (h : i < l.length), ExsD w D l[i].e.of (f i))
    (hb : ∀ i (h : i < l.length), StsD w D l[i].body (g i))
    (hk : ∀ i (hi' : i < l.length), StsD w D l[i].els (h i)) : StsD w D l (.slice a l.length cap)
abbrev StsIn (w : World) (lo hi : Nat) := StsD w (Rng lo hi)
theorem StsD.stays {w w' : World} {D : Nat → Prop} {l : List St} {v : Value} (h : StsD w D l v) (hs : StaysD D w w') : StsD w' D l v := by
  induction h with
  | mk l a cap f g h hl hc he _ _ ih1 ih2 => exact .mk l a cap f g h hl (hc.stays hs) (fun i hi => (he i hi).stays hs) ih1 ih2
theorem StsD.mono {w : World} {D D' : Nat → Prop} {l : List St} {v : Value} (h : StsD w D l v) (h1 : ∀ k, D k → D' k) : StsD w D' l v := by
  induction h with
  | mk l a cap f g h hl hc he _ _ ih1 ih2 => exact .mk l a cap f g h hl (hc.mono h1) (fun i hi => (he i hi).mono h1) ih1 ih2

/-- Threads. -/
structure TsD (w : World) (D : Nat → Prop) (l : List (List St)) (v : Value) : Prop where
  out : ∃ (a : Option Addr) (cap : Nat) (f : Nat → Value), v = .slice a l.length cap ∧ Slc a l.length cap ∧ RowAt w D a l.length 1 (fun i => [f i]) ∧ ∀ i (h : i < l.length), StsD w D l[i] (f i)
abbrev TsIn (w : World) (lo hi : Nat) := TsD w (Rng lo hi)
theorem TsD.stays {w w' : World} {D : Nat → Prop} {l : List (List St)} {v : Value} (h : TsD w D l v) (hs : StaysD D w w') : TsD w' D l v := by
  obtain ⟨a, cap, f, e, h1, h3, h4⟩ := h.out
  exact ⟨a, cap, f, e, h1, h3.stays hs, fun i hi => (h4 i hi).stays hs⟩
theorem TsD.mono {w : World} {D D' : Nat → Prop} {l : List (List St)} {v : Value} (h : TsD w D l v) (k1 : ∀ k, D k → D' k) : TsD w D' l v := by
  obtain ⟨a, cap, f, e, h1, h3, h4⟩ := h.out
  exact ⟨a, cap, f, e, h1, h3.mono k1, fun i hi => (h4 i hi).mono k1⟩

/-- Declarations. -/
structure DsD (w : World) (D : Nat → Prop) (l : List Dc) (v : Value) : Prop where
  out : ∃ (a : Option Addr) (cap : Nat), v = .slice a l.length cap ∧ Slc a l.length cap ∧ RowAt w D a l.length 4 (fun i => (l.getD i dc0).cells)
abbrev DsIn (w : World) (lo hi : Nat) := DsD w (Rng lo hi)
theorem DsD.stays {w w' : World} {D : Nat → Prop} {l : List Dc} {v : Value} (h : DsD w D l v) (hs : StaysD D w w') : DsD w' D l v := by
  obtain ⟨a, cap, e, h1, h3⟩ := h.out
  exact ⟨a, cap, e, h1, h3.stays hs⟩
theorem DsD.mono {w : World} {D D' : Nat → Prop} {l : List Dc} {v : Value} (h : DsD w D l v) (k1 : ∀ k, D k → D' k) : DsD w D' l v := by
  obtain ⟨a, cap, e, h1, h3⟩ := h.out
  exact ⟨a, cap, e, h1, h3.mono k1⟩

theorem ExsD.form {w : World} {D : Nat → Prop} {l : List Ex} {v : Value} (h : ExsD w D l v) : ∃ a n cap, v = .slice a n cap := by
  cases h; exact ⟨_, _, _, rfl⟩
theorem StsD.form {w : World} {D : Nat → Prop} {l : List St} {v : Value} (h : StsD w D l v) : ∃ a n cap, v = .slice a n cap := by
  cases h; exact ⟨_, _, _, rfl⟩

theorem Kept.al {a w : World} (h : Kept a w) (o : Obj) : Kept a (w.alloc o) := Below.alloc h h.size o
theorem Kept.dr {a w : World} (h : Kept a w) : Kept a w.drew := Below.drew h
theorem Kept.drN {a w : World} (h : Kept a w) (n : Nat) : Kept a (w.drewN n) := Below.trans h ⟨rfl, rfl, rfl, Nat.le_refl _, fun _ _ => rfl⟩
theorem Kept.stays {w W : World} (h : Kept w W) {lo hi : Nat} (hh : hi ≤ w.heap.size) : Stays lo hi w W := Stays.of_below h hh
theorem Rng.up {lo hi lo' hi' : Nat} (h1 : lo' ≤ lo) (h2 : hi ≤ hi') : ∀ k, Rng lo hi k → Rng lo' hi' k := fun k ⟨a, b⟩ => ⟨by omega, by omega⟩
theorem ExsD.up {w W : World} {lo hi : Nat} {l : List Ex} {v : Value} (h : ExsIn w lo hi l v) (hh : hi ≤ w.heap.size) (hb : Kept w W) : ExsIn W 0 W.heap.size l v :=
  (h.stays (hb.stays hh)).mono (Rng.up (Nat.zero_le _) (Nat.le_trans hh hb.size))
theorem StsD.up {w W : World} {lo hi : Nat} {l : List St} {v : Value} (h : StsIn w lo hi l v) (hh : hi ≤ w.heap.size) (hb : Kept w W) : StsIn W 0 W.heap.size l v :=
  (h.stays (hb.stays hh)).mono (Rng.up (Nat.zero_le _) (Nat.le_trans hh hb.size))
theorem TsD.up {w W : World} {lo hi : Nat} {l : List (List St)} {v : Value} (h : TsIn w lo hi l v) (hh : hi ≤ w.heap.size) (hb : Kept w W) : TsIn W 0 W.heap.size l v :=
  (h.stays (hb.stays hh)).mono (Rng.up (Nat.zero_le _) (Nat.le_trans hh hb.size))
theorem DsD.up {w W : World} {lo hi : Nat} {l : List Dc} {v : Value} (h : DsIn w lo hi l v) (hh : hi ≤ w.heap.size) (hb : Kept w W) : DsIn W 0 W.heap.size l v :=
  (h.stays (hb.stays hh)).mono (Rng.up (Nat.zero_le _) (Nat.le_trans hh hb.size))
theorem Kept.cellS {w w' : World} (h : Kept w w') {p : Addr} {v : Value} (hc : w.cell? p = some v) : w'.cell? p = some v := (h.cell (block_lt_of_cell hc)).trans hc
theorem bcell {W w1 : World} (hb : Kept W w1) : (∀ b o, b < W.heap.size → w1.cell? ⟨b, o, none⟩ = W.cell? ⟨b, o, none⟩) ∧ (∀ b o, b < W.heap.size → w1.frozen? ⟨b, o, none⟩ = W.frozen? ⟨b, o, none⟩) :=
  ⟨fun b o h => hb.cell (p := ⟨b, o, none⟩) h, fun b o h => hb.frozen (p := ⟨b, o, none⟩) h⟩

/-! ### The cells of one item -/
theorem ExsD.open {w : World} {D : Nat → Prop} {l : List Ex} {v : Value} (h : ExsD w D l v) : ∃ a cap, v = .slice a l.length cap ∧ l.length ≤ 9223372036854775807 ∧ l.length ≤ cap ∧ cap ≤ 9223372036854775807 := by
  cases h with | mk _ a cap f hl => have h1 := hl.big; have h2 := hl.le; unfold maxLen at h1; exact ⟨_, _, rfl, by omega, by omega, by omega⟩
theorem StsD.open {w : World} {D : Nat → Prop} {l : List St} {v : Value} (h : StsD w D l v) : ∃ a cap, v = .slice a l.length cap ∧ l.length ≤ 9223372036854775807 ∧ l.length ≤ cap ∧ cap ≤ 9223372036854775807 := by
  cases h with | mk _ a cap f g q hl => have h1 := hl.big; have h2 := hl.le; unfold maxLen at h1; exact ⟨_, _, rfl, by omega, by omega, by omega⟩
theorem TsD.open {w : World} {D : Nat → Prop} {l : List (List St)} {v : Value} (h : TsD w D l v) : ∃ a cap, v = .slice a l.length cap ∧ l.length ≤ 9223372036854775807 ∧ l.length ≤ cap ∧ cap ≤ 9223372036854775807 := by
  obtain ⟨a, cap, f, rfl, hl, _⟩ := h.out; have h1 := hl.big; have h2 := hl.le; unfold maxLen at h1; exact ⟨_, _, rfl, by omega, by omega, by omega⟩
theorem DsD.open {w : World} {D : Nat → Prop} {l : List Dc} {v : Value} (h : DsD w D l v) : ∃ a cap, v = .slice a l.length cap ∧ l.length ≤ 9223372036854775807 ∧ l.length ≤ cap ∧ cap ≤ 9223372036854775807 := by
  obtain ⟨a, cap, rfl, hl, _⟩ := h.out; have h1 := hl.big; have h2 := hl.le; unfold maxLen at h1; exact ⟨_, _, rfl, by omega, by omega, by omega⟩

theorem ExsD.itemD {w : World} {D : Nat → Prop} {l : List Ex} {a : Option Addr} {n cap : Nat} (h : ExsD w D l (.slice a n cap)) (k : Nat) (hk : k < l.length) :
    ∃ b o a1 n1 q1, a = some ⟨b, o, none⟩ ∧ D b ∧ (∀ j, w.frozen? ⟨b, j, none⟩ = false) ∧ w.cell? ⟨b, o + k * 4, none⟩ = some (.int .i64 l[k].kind) ∧ w.cell? ⟨b, o + k * 4 + 1, none⟩ = some (.int .i64 l[k].n) ∧
      w.cell? ⟨b, o + k * 4 + 2, none⟩ = some (.string l[k].name) ∧ w.cell? ⟨b, o + k * 4 + 3, none⟩ = some (.slice a1 n1 q1) ∧ ExsD w D l[k].of (.slice a1 n1 q1) := by
  cases h with
  | mk _ _ _ f hl hc hk' =>
    obtain ⟨b, o, ha, h1, h3, h4⟩ := hc k hk
    have e : l.getD k ex0 = l[k] := by simp [List.getD, hk]
    simp only [e] at h4
    have K := hk' k hk
    obtain ⟨a1, n1, q1, e1⟩ := K.form
    rw [e1] at h4 K
    exact ⟨b, o, a1, n1, q1, ha, h1, h3, h4 0 _ rfl, h4 1 _ rfl, h4 2 _ rfl, h4 3 _ rfl, K⟩
theorem ExsD.item {w wr : World} {lo hi : Nat} {l : List Ex} {a : Option Addr} {n cap : Nat} (h : ExsIn w lo hi l (.slice a n cap)) (hs : Stays lo hi w wr) (k : Nat) (hk : k < l.length) :
    ∃ b o a1 n1 q1, a = some ⟨b, o, none⟩ ∧ lo ≤ b ∧ b < hi ∧ (∀ j, wr.frozen? ⟨b, j, none⟩ = false) ∧ wr.cell? ⟨b, o + k * 4, none⟩ = some (.int .i64 l[k].kind) ∧ wr.cell? ⟨b, o + k * 4 + 1, none⟩ = some (.int .i64 l[k].n) ∧
      wr.cell? ⟨b, o + k * 4 + 2, none⟩ = some (.string l[k].name) ∧ wr.cell? ⟨b, o + k * 4 + 3, none⟩ = some (.slice a1 n1 q1) ∧ ExsIn wr lo hi l[k].of (.slice a1 n1 q1) := by
  obtain ⟨b, o, a1, n1, q1, ha, ⟨h1, h2⟩, r⟩ := (h.stays hs).itemD k hk
  exact ⟨b, o, a1, n1, q1, ha, h1, h2, r⟩

theorem StsD.itemD {w : World} {D : Nat → Prop} {l : List St} {a : Option Addr} {n cap : Nat} (h : StsD w D l (.slice a n cap)) (k : Nat) (hk : k < l.length) :
    ∃ b o a1 n1 q1 a2 n2 q2 a3 n3 q3, a = some ⟨b, o, none⟩ ∧ D b ∧ (∀ j, w.frozen? ⟨b, j, none⟩ = false) ∧ w.cell? ⟨b, o + k * 11, none⟩ = some (.int .i64 l[k].kind) ∧ w.cell? ⟨b, o + k * 11 + 1, none⟩ = some (.string l[k].name) ∧
      w.cell? ⟨b, o + k * 11 + 2, none⟩ = some (.string l[k].other) ∧ w.cell? ⟨b, o + k * 11 + 3, none⟩ = some (.int .i64 l[k].n) ∧ w.cell? ⟨b, o + k * 11 + 4, none⟩ = some (.int .i64 l[k].e.kind) ∧
      w.cell? ⟨b, o + k * 11 + 5, none⟩ = some (.int .i64 l[k].e.n) ∧ w.cell? ⟨b, o + k * 11 + 6, none⟩ = some (.string l[k].e.name) ∧ w.cell? ⟨b, o + k * 11 + 7, none⟩ = some (.slice a1 n1 q1) ∧ w.cell? ⟨b, o + k * 11 + 8, none⟩ = some (.slice a2 n2 q2) ∧
      w.cell? ⟨b, o + k * 11 + 9, none⟩ = some (.slice a3 n3 q3) ∧ w.cell? ⟨b, o + k * 11 + 10, none⟩ = some (.complex .f64 l[k].re l[k].im) ∧
      ExsD w D l[k].e.of (.slice a1 n1 q1) ∧ StsD w D l[k].body (.slice a2 n2 q2) ∧ StsD w D l[k].els (.slice a3 n3 q3) := by
  cases h with
  | mk _ _ _ f g q hl hc he hb hq =>
    obtain ⟨b, o, ha, h1, h3, h4⟩ := hc k hk
    have e : l.getD k st0 = l[k] := by simp [List.getD, hk]
    simp only [e] at h4
    have K1 := he k hk
    have K2 := hb k hk
    have K3 := hq k hk
    obtain ⟨a1, n1, q1, e1⟩ := K1.form
    obtain ⟨a2, n2, q2, e2⟩ := K2.form
    obtain ⟨a3, n3, q3, e3⟩ := K3.form
    rw [e1] at K1
    rw [e2] at K2
    rw [e3] at K3
    rw [e1, e2, e3] at h4
    exact ⟨b, o, a1, n1, q1, a2, n2, q2, a3, n3, q3, ha, h1, h3, h4 0 _ rfl, h4 1 _ rfl, h4 2 _ rfl, h4 3 _ rfl, h4 4 _ rfl, h4 5 _ rfl, h4 6 _ rfl, h4 7 _ rfl, h4 8 _ rfl, h4 9 _ rfl, h4 10 _ rfl, K1, K2, K3⟩
theorem StsD.item {w wr : World} {lo hi : Nat} {l : List St} {a : Option Addr} {n cap : Nat} (h : StsIn w lo hi l (.slice a n cap)) (hs : Stays lo hi w wr) (k : Nat) (hk : k < l.length) :
    ∃ b o a1 n1 q1 a2 n2 q2 a3 n3 q3, a = some ⟨b, o, none⟩ ∧ lo ≤ b ∧ b < hi ∧ (∀ j, wr.frozen? ⟨b, j, none⟩ = false) ∧ wr.cell? ⟨b, o + k * 11, none⟩ = some (.int .i64 l[k].kind) ∧ wr.cell? ⟨b, o + k * 11 + 1, none⟩ = some (.string l[k].name) ∧
      wr.cell? ⟨b, o + k * 11 + 2, none⟩ = some (.string l[k].other) ∧ wr.cell? ⟨b, o + k * 11 + 3, none⟩ = some (.int .i64 l[k].n) ∧ wr.cell? ⟨b, o + k * 11 + 4, none⟩ = some (.int .i64 l[k].e.kind) ∧
      wr.cell? ⟨b, o + k * 11 + 5, none⟩ = some (.int .i64 l[k].e.n) ∧ wr.cell? ⟨b, o + k * 11 + 6, none⟩ = some (.string l[k].e.name) ∧ wr.cell? ⟨b, o + k * 11 + 7, none⟩ = some (.slice a1 n1 q1) ∧ wr.cell? ⟨b, o + k * 11 + 8, none⟩ = some (.slice a2 n2 q2) ∧
      wr.cell? ⟨b, o + k * 11 + 9, none⟩ = some (.slice a3 n3 q3) ∧ wr.cell? ⟨b, o + k * 11 + 10, none⟩ = some (.complex .f64 l[k].re l[k].im) ∧
      ExsIn wr lo hi l[k].e.of (.slice a1 n1 q1) ∧ StsIn wr lo hi l[k].body (.slice a2 n2 q2) ∧ StsIn wr lo hi l[k].els (.slice a3 n3 q3) := by
  obtain ⟨b, o, a1, n1, q1, a2, n2, q2, a3, n3, q3, ha, ⟨h1, h2⟩, r⟩ := (h.stays hs).itemD k hk
  exact ⟨b, o, a1, n1, q1, a2, n2, q2, a3, n3, q3, ha, h1, h2, r⟩

theorem DsD.itemD {w : World} {D : Nat → Prop} {l : List Dc} {a : Option Addr} {n cap : Nat} (h : DsD w D l (.slice a n cap)) (k : Nat) (hk : k < l.length) :
    ∃ b o, a = some ⟨b, o, none⟩ ∧ D b ∧ (∀ j, w.frozen? ⟨b, j, none⟩ = false) ∧ w.cell? ⟨b, o + k * 4, none⟩ = some (.int .i64 l[k].kind) ∧ w.cell? ⟨b, o + k * 4 + 1, none⟩ = some (.string l[k].name) ∧
      w.cell? ⟨b, o + k * 4 + 2, none⟩ = some (.int .i64 l[k].n) ∧ w.cell? ⟨b, o + k * 4 + 3, none⟩ = some (.complex .f64 l[k].re l[k].im) := by
  obtain ⟨a, cap, e, h1, h3⟩ := h.out
  cases e
  obtain ⟨b, o, ha, h1, h3, h4⟩ := h3 k hk
  have e : l.getD k dc0 = l[k] := by simp [List.getD, hk]
  simp only [e] at h4
  exact ⟨b, o, ha, h1, h3, h4 0 _ rfl, h4 1 _ rfl, h4 2 _ rfl, h4 3 _ rfl⟩
theorem DsD.item {w wr : World} {lo hi : Nat} {l : List Dc} {a : Option Addr} {n cap : Nat} (h : DsIn w lo hi l (.slice a n cap)) (hs : Stays lo hi w wr) (k : Nat) (hk : k < l.length) :
    ∃ b o, a = some ⟨b, o, none⟩ ∧ lo ≤ b ∧ b < hi ∧ (∀ j, wr.frozen? ⟨b, j, none⟩ = false) ∧ wr.cell? ⟨b, o + k * 4, none⟩ = some (.int .i64 l[k].kind) ∧ wr.cell? ⟨b, o + k * 4 + 1, none⟩ = some (.string l[k].name) ∧
      wr.cell? ⟨b, o + k * 4 + 2, none⟩ = some (.int .i64 l[k].n) ∧ wr.cell? ⟨b, o + k * 4 + 3, none⟩ = some (.complex .f64 l[k].re l[k].im) := by
  obtain ⟨b, o, ha, ⟨h1, h2⟩, r⟩ := (h.stays hs).itemD k hk
  exact ⟨b, o, ha, h1, h2, r⟩

theorem RowAt.one {w : World} {D : Nat → Prop} {n : Nat} {a : Option Addr} {f : Nat → Value} (h : RowAt w D a n 1 (fun i => [f i])) (k : Nat) (hk : k < n) :
    ∃ b o, a = some ⟨b, o, none⟩ ∧ D b ∧ (∀ j, w.frozen? ⟨b, j, none⟩ = false) ∧ w.cell? ⟨b, o + k, none⟩ = some (f k) := by
  obtain ⟨b, o, ha, h1, h3, h4⟩ := h k hk
  have := h4 0 _ rfl
  rw [Nat.mul_one] at this
  exact ⟨b, o, ha, h1, h3, this⟩

theorem TsD.itemD {w : World} {D : Nat → Prop} {l : List (List St)} {a : Option Addr} {n cap : Nat} (h : TsD w D l (.slice a n cap)) (k : Nat) (hk : k < l.length) :
    ∃ b o a1 n1 q1, a = some ⟨b, o, none⟩ ∧ D b ∧ (∀ j, w.frozen? ⟨b, j, none⟩ = false) ∧ w.cell? ⟨b, o + k, none⟩ = some (.slice a1 n1 q1) ∧ StsD w D l[k] (.slice a1 n1 q1) := by
  obtain ⟨a, cap, f, e, h1, h3, h4⟩ := h.out
  cases e
  obtain ⟨b, o, ha, k1, k3, c0⟩ := h3.one k hk
  have K := h4 k hk
  obtain ⟨a1, n1, q1, e1⟩ := K.form
  rw [e1] at c0 K
  exact ⟨b, o, a1, n1, q1, ha, k1, k3, c0, K⟩
theorem TsD.item {w wr : World} {lo hi : Nat} {l : List (List St)} {a : Option Addr} {n cap : Nat} (h : TsIn w lo hi l (.slice a n cap)) (hs : Stays lo hi w wr) (k : Nat) (hk : k < l.length) :
    ∃ b o a1 n1 q1, a = some ⟨b, o, none⟩ ∧ lo ≤ b ∧ b < hi ∧ (∀ j, wr.frozen? ⟨b, j, none⟩ = false) ∧ wr.cell? ⟨b, o + k, none⟩ = some (.slice a1 n1 q1) ∧ StsIn wr lo hi l[k] (.slice a1 n1 q1) := by
  obtain ⟨b, o, a1, n1, q1, ha, ⟨h1, h2⟩, r⟩ := (h.stays hs).itemD k hk
  exact ⟨b, o, a1, n1, q1, ha, h1, h2, r⟩

theorem Ex.sames_step (l m : List Ex) (k : Nat) (h1 : k < l.length) (h2 : k < m.length) : Ex.sames (l.drop k) (m.drop k) = (Ex.same l[k] m[k] && Ex.sames (l.drop (k + 1)) (m.drop (k + 1))) := by
  rw [List.drop_eq_getElem_cons h1, List.drop_eq_getElem_cons h2, Ex.sames]
theorem St.sames_step (l m : List St) (k : Nat) (h1 : k < l.length) (h2 : k < m.length) : St.sames (l.drop k) (m.drop k) = (St.same l[k] m[k] && St.sames (l.drop (k + 1)) (m.drop (k + 1))) := by
  rw [List.drop_eq_getElem_cons h1, List.drop_eq_getElem_cons h2, St.sames]
theorem Dc.sames_step (l m : List Dc) (k : Nat) (h1 : k < l.length) (h2 : k < m.length) : Dc.sames (l.drop k) (m.drop k) = (Dc.same l[k] m[k] && Dc.sames (l.drop (k + 1)) (m.drop (k + 1))) := by
  rw [List.drop_eq_getElem_cons h1, List.drop_eq_getElem_cons h2, Dc.sames]
theorem sameTs_step (l m : List (List St)) (k : Nat) (h1 : k < l.length) (h2 : k < m.length) : sameTs (l.drop k) (m.drop k) = (St.sames l[k] m[k] && sameTs (l.drop (k + 1)) (m.drop (k + 1))) := by
  rw [List.drop_eq_getElem_cons h1, List.drop_eq_getElem_cons h2, sameTs]
theorem Ex.sames_end (l m : List Ex) (k : Nat) (h1 : l.length ≤ k) (h2 : m.length ≤ k) : Ex.sames (l.drop k) (m.drop k) = true := by
  rw [List.drop_eq_nil_of_le h1, List.drop_eq_nil_of_le h2, Ex.sames]
theorem St.sames_end (l m : List St) (k : Nat) (h1 : l.length ≤ k) (h2 : m.length ≤ k) : St.sames (l.drop k) (m.drop k) = true := by
  rw [List.drop_eq_nil_of_le h1, List.drop_eq_nil_of_le h2, St.sames]
theorem Dc.sames_end (l m : List Dc) (k : Nat) (h1 : l.length ≤ k) (h2 : m.length ≤ k) : Dc.sames (l.drop k) (m.drop k) = true := by
  rw [List.drop_eq_nil_of_le h1, List.drop_eq_nil_of_le h2, Dc.sames]
theorem sameTs_end (l m : List (List St)) (k : Nat) (h1 : l.length ≤ k) (h2 : m.length ≤ k) : sameTs (l.drop k) (m.drop k) = true := by
  rw [List.drop_eq_nil_of_le h1, List.drop_eq_nil_of_le h2, sameTs]
theorem Ex.sames_len : ∀ (l m : List Ex), l.length ≠ m.length → Ex.sames l m = false
  | [], [], h => by simp at h
  | a :: l, b :: m, h => by rw [Ex.sames, Ex.sames_len l m (by simpa using h)]; simp
  | [], _ :: _, _ => by rw [Ex.sames]
  | _ :: _, [], _ => by rw [Ex.sames]
theorem St.sames_len : ∀ (l m : List St), l.length ≠ m.length → St.sames l m = false
  | [], [], h => by simp at h
  | a :: l, b :: m, h => by rw [St.sames, St.sames_len l m (by simpa using h)]; simp
  | [], _ :: _, _ => by rw [St.sames]
  | _ :: _, [], _ => by rw [St.sames]
theorem Dc.sames_len : ∀ (l m : List Dc), l.length ≠ m.length → Dc.sames l m = false
  | [], [], h => by simp at h
  | a :: l, b :: m, h => by rw [Dc.sames, Dc.sames_len l m (by simpa using h)]; simp
  | [], _ :: _, _ => by rw [Dc.sames]
  | _ :: _, [], _ => by rw [Dc.sames]
theorem sameTs_len : ∀ (l m : List (List St)), l.length ≠ m.length → sameTs l m = false
  | [], [], h => by simp at h
  | a :: l, b :: m, h => by rw [sameTs, sameTs_len l m (by simpa using h)]; simp
  | [], _ :: _, _ => by rw [sameTs]
  | _ :: _, [], _ => by rw [sameTs]

#print axioms StsD.mono
end Go.Proofs.YteaopephdjoegaaGreatDoor
