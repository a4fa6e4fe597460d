/- KpA -/
import Derived.Below
import Derived.Deep.Draws
import Derived.WalkKit
import Derived.WalkSpells
import Derived.WalkLawsBesides
import Derived.Deep.MidRow
import Derived.Laws.OwnMore
import Derived.Laws.CopyRow
import Derived.Laws.CopyOwn
import Derived.Maps.AppendAt
import Derived.Tactics
import Derived.Test.YtnfkjmafhaecgaaRows

namespace Go.Proofs.Ytnfkjmafhaecgaa
open Go.RowKit
/-- Nothing that was there has turned. -/
abbrev Kept (w w' : World) : Prop := Below w.heap.size w w'
theorem Kept.refl (w : World) : Kept w w := Below.refl _ _
theorem Kept.then {a b c : World} (h : Kept a b) (k : Kept b c) : Kept a c := Below.trans h (Below.mono k h.size)
theorem Kept.drew {a b : World} (h : Kept a b) : Kept a b.drew := Below.drew h
theorem Kept.drewN {a b : World} (h : Kept a b) (n : Nat) : Kept a (b.drewN n) := Below.trans h ⟨rfl, rfl, rfl, Nat.le_refl _, fun _ _ => rfl⟩
theorem ret_int {k : IntKind} {a b : Int} (h : a = b) : Ending.returned (.int k a) = .returned (.int k b) := by rw [h]
theorem ret_bool {a b : Bool} (h : a = b) : Ending.returned (.bool a) = .returned (.bool b) := by rw [h]
theorem tmod_pos (n m : Int) (hm : 0 < m) : n % m = if n.tmod m < 0 then n.tmod m + m else n.tmod m := by
  have h1 := Int.tmod_eq_emod (a := n) (b := m)
  have h2 := Int.emod_nonneg n (by omega : m ≠ 0)
  have h3 := Int.emod_lt_of_pos n hm
  have h4 : (m.natAbs : Int) = m := by omega
  by_cases hc : 0 ≤ n ∨ m ∣ n
  · rw [if_pos hc] at h1; split <;> omega
  · rw [if_neg hc] at h1; split <;> omega
theorem tmod_lt (n m : Int) (hm : 0 < m) : -m < n.tmod m ∧ n.tmod m < m := by
  have h1 := Int.tmod_eq_emod (a := n) (b := m)
  have h2 := Int.emod_nonneg n (by omega : m ≠ 0)
  have h3 := Int.emod_lt_of_pos n hm
  have h4 : (m.natAbs : Int) = m := by omega
  by_cases hc : 0 ≤ n ∨ m ∣ n
  · rw [if_pos hc] at h1; omega
  · rw [if_neg hc] at h1; omega
theorem run_store_complex {P : Program} (w : World) (a : Addr) (m : Mode) (k : FloatKind) (x y : Nat) : (store a (.complex k x y) m).run P w = stored P w a (.complex k x y) m := run_store P w a _ m rfl
end Go.Proofs.Ytnfkjmafhaecgaa
namespace Go.Proofs.Ytnfkjmafhaecgaa
open Go.RowKit
inductive Ex where
  | mk (kind n : Int) (name : ByteArray) (of : List Ex)
namespace Ex
def kind : Ex → Int | .mk k _ _ _ => k
def n : Ex → Int | .mk _ n _ _ => n
def name : Ex → ByteArray | .mk _ _ s _ => s
def of : Ex → List Ex | .mk _ _ _ l => l
mutual
def same : Ex → Ex → Bool
  | .mk k n s l, .mk k' n' s' l' => (k == k') && ((n == n') && ((s.toList == s'.toList) && sames l l'))
def sames : List Ex → List Ex → Bool
  | [], [] => true
  | a :: l, b :: m => same a b && sames l m
  | [], _ :: _ => false
  | _ :: _, [] => false
end
mutual
def size : Ex → Nat
  | .mk _ _ _ l => 1 + sizes l
def sizes : List Ex → Nat
  | [] => 0
  | a :: l => size a + sizes l
end
mutual
def names : Ex → List ByteArray
  | .mk k _ s l => (if k = 2 then [s] else []) ++ namesL l
def namesL : List Ex → List ByteArray
  | [] => []
  | a :: l => names a ++ namesL l
end
theorem ind {P : Ex → Prop} (h : ∀ e : Ex, (∀ x ∈ e.of, P x) → P e) : ∀ e, P e := by
  intro e
  refine Ex.rec (motive_1 := P) (motive_2 := fun l => ∀ x ∈ l, P x) ?_ ?_ ?_ e
  · intro k n s l hl; exact h _ hl
  · intro x hx; cases hx
  · intro a l ha hl x hx
    rcases List.mem_cons.1 hx with rfl | hx
    · exact ha
    · exact hl x hx
theorem size_eq (a : Ex) : size a = 1 + sizes a.of := by cases a; rw [size]; rfl
theorem names_eq (a : Ex) : names a = (if a.kind = 2 then [a.name] else []) ++ namesL a.of := by cases a; rw [names]; rfl
theorem size_pos (a : Ex) : 0 < size a := by rw [size_eq]; omega
theorem sizes_append (l m : List Ex) : sizes (l ++ m) = sizes l + sizes m := by
  induction l with
  | nil => simp [sizes]
  | cons a l ih => simp only [List.cons_append, sizes, ih]; omega
/-- Its cells: v is where what it is of lies. -/
def cells (e : Ex) (v : Value) : List Value := [.int .i64 e.kind, .int .i64 e.n, .string e.name, v]
/-- As a value. -/
abbrev val (e : Ex) (v : Value) : Value := .agg #[.int .i64 e.kind, .int .i64 e.n, .string e.name, v]
end Ex
inductive St where
  | mk (kind : Int) (name other : ByteArray) (n : Int) (e : Ex) (body els : List St) (re im : Nat)
namespace St
def kind : St → Int | .mk k _ _ _ _ _ _ _ _ => k
def name : St → ByteArray | .mk _ s _ _ _ _ _ _ _ => s
def other : St → ByteArray | .mk _ _ s _ _ _ _ _ _ => s
def n : St → Int | .mk _ _ _ n _ _ _ _ _ => n
def e : St → Ex | .mk _ _ _ _ e _ _ _ _ => e
def body : St → List St | .mk _ _ _ _ _ l _ _ _ => l
def els : St → List St | .mk _ _ _ _ _ _ l _ _ => l
def re : St → Nat | .mk _ _ _ _ _ _ _ x _ => x
def im : St → Nat | .mk _ _ _ _ _ _ _ _ x => x
mutual
def same : St → St → Bool
  | .mk k s o n e b l _ _, .mk k' s' o' n' e' b' l' _ _ => (k == k') && ((s.toList == s'.toList) && ((o.toList == o'.toList) && ((n == n') && (Ex.same e e' && (sames b b' && sames l l')))))
def sames : List St → List St → Bool
  | [], [] => true
  | a :: l, b :: m => same a b && sames l m
  | [], _ :: _ => false
  | _ :: _, [] => false
end
mutual
/-- How many statements it is, with those within. -/
def size : St → Nat
  | .mk _ _ _ _ _ b l _ _ => 1 + (sizes b + sizes l)
def sizes : List St → Nat
  | [] => 0
  | a :: l => size a + sizes l
end
mutual
def flat : St → List St
  | .mk k s o n e b l x y => .mk k s o n e b l x y :: (flats b ++ flats l)
def flats : List St → List St
  | [] => []
  | a :: l => flat a ++ flats l
end
theorem ind {P : St → Prop} (h : ∀ s : St, (∀ x ∈ s.body, P x) → (∀ x ∈ s.els, P x) → P s) : ∀ s, P s := by
  intro s
  refine St.rec (motive_1 := P) (motive_2 := fun l => ∀ x ∈ l, P x) ?_ ?_ ?_ s
  · intro k s o n e b l x y hb hl; exact h _ hb hl
  · intro x hx; cases hx
  · intro a l ha hl x hx
    rcases List.mem_cons.1 hx with rfl | hx
    · exact ha
    · exact hl x hx
theorem size_eq (a : St) : size a = 1 + (sizes a.body + sizes a.els) := by cases a; rw [size]; rfl
theorem flat_eq (a : St) : flat a = a :: (flats a.body ++ flats a.els) := by cases a; rw [flat]; rfl
theorem size_pos (a : St) : 0 < size a := by rw [size_eq]; omega
theorem sizes_append (l m : List St) : sizes (l ++ m) = sizes l + sizes m := by
  induction l with
  | nil => simp [sizes]
  | cons a l ih => simp only [List.cons_append, sizes, ih]; omega
theorem flats_append (l m : List St) : flats (l ++ m) = flats l ++ flats m := by
  induction l with
  | nil => simp [flats]
  | cons a l ih => simp only [List.cons_append, flats, ih, List.append_assoc]
theorem flats_len_of (l : List St) (h : ∀ x ∈ l, (flat x).length = size x) : (flats l).length = sizes l := by
  induction l with
  | nil => simp [flats, sizes]
  | cons a l ih =>
    have h1 := h a (List.mem_cons_self ..)
    have h2 := ih (fun x hx => h x (List.mem_cons_of_mem _ hx))
    simp only [flats, sizes, List.length_append]; omega
theorem flat_len : ∀ e : St, (flat e).length = size e := by
  refine ind fun e h h' => ?_
  have h1 := flats_len_of _ h
  have h2 := flats_len_of _ h'
  rw [flat_eq, size_eq, List.length_cons, List.length_append]
  omega
theorem flats_len (l : List St) : (flats l).length = sizes l := flats_len_of l fun x _ => flat_len x
/-- Its cells: ev, bv, lv: where what E is of, Body and Else lie. -/
def cells (s : St) (ev bv lv : Value) : List Value := [.int .i64 s.kind, .string s.name, .string s.other, .int .i64 s.n, .int .i64 s.e.kind, .int .i64 s.e.n, .string s.e.name, ev, bv, lv, .complex .f64 s.re s.im]
/-- As a value. -/
abbrev val (s : St) (ev bv lv : Value) : Value := .agg #[.int .i64 s.kind, .string s.name, .string s.other, .int .i64 s.n, .int .i64 s.e.kind, .int .i64 s.e.n, .string s.e.name, ev, bv, lv, .complex .f64 s.re s.im]
end St
structure Dc where
  kind : Int
  name : ByteArray
  n : Int
  re : Nat
  im : Nat
namespace Dc
def same (a b : Dc) : Bool := (a.kind == b.kind) && ((a.name.toList == b.name.toList) && (a.n == b.n))
def sames : List Dc → List Dc → Bool
  | [], [] => true
  | a :: l, b :: m => same a b && sames l m
  | [], _ :: _ => false
  | _ :: _, [] => false
def cells (d : Dc) : List Value := [.int .i64 d.kind, .string d.name, .int .i64 d.n, .complex .f64 d.re d.im]
abbrev val (d : Dc) : Value := .agg #[.int .i64 d.kind, .string d.name, .int .i64 d.n, .complex .f64 d.re d.im]
end Dc
/-! ### Where they lie -/
/-- n items of sz cells each lie behind a, item i as c i, in a block of D that may be written. -/
def RowAt (w : World) (D : Nat → Prop) (a : Option Addr) (n sz : Nat) (c : Nat → List Value) : Prop :=
  ∀ i, i < n → ∃ b o, a = some ⟨b, o, none⟩ ∧ D b ∧ (∀ j, w.frozen? ⟨b, j, none⟩ = false) ∧ w.rangeAt b (o + i * sz) (c i)
/-- The blocks of D are as they were. -/
def StaysD (D : Nat → Prop) (w w' : World) : Prop := ∀ k, D k → w'.heap[k]? = w.heap[k]?
/-- From lo on, below hi. -/
abbrev Rng (lo hi : Nat) : Nat → Prop := fun k => lo ≤ k ∧ k < hi
abbrev Stays (lo hi : Nat) (w w' : World) : Prop := StaysD (Rng lo hi) w w'
theorem StaysD.refl (D : Nat → Prop) (w : World) : StaysD D w w := fun _ _ => rfl
theorem StaysD.trans {D : Nat → Prop} {a b c : World} (h : StaysD D a b) (k : StaysD D b c) : StaysD D a c := fun i h1 => (k i h1).trans (h i h1)
theorem StaysD.mono {D D' : Nat → Prop} {w w' : World} (h : StaysD D w w') (h1 : ∀ k, D' k → D k) : StaysD D' w w' := fun k a => h k (h1 k a)
theorem Stays.of_below {lo hi B : Nat} {w w' : World} (h : Below B w w') (hB : hi ≤ B) : Stays lo hi w w' := fun k ⟨_, h2⟩ => h.block k (by omega)
theorem RowAt.stays {w w' : World} {D : Nat → Prop} {a : Option Addr} {n sz : Nat} {c : Nat → List Value} (h : RowAt w D a n sz c) (hs : StaysD D w w') : RowAt w' D a n sz c := by
  intro i hi'
  obtain ⟨b, o, ha, h1, hf, hr⟩ := h i hi'
  have hb := hs b h1
  refine ⟨b, o, ha, h1, fun j => ?_, fun j v hv => ?_⟩
  · rw [World.frozen?_of_block (w := w) (a := ⟨b, j, none⟩) hb]; exact hf j
  · rw [World.cell?_of_block (w := w) (a := ⟨b, o + i * sz + j, none⟩) hb]; exact hr j v hv
theorem RowAt.mono {w : World} {D D' : Nat → Prop} {a : Option Addr} {n sz : Nat} {c : Nat → List Value} (h : RowAt w D a n sz c) (h1 : ∀ k, D k → D' k) : RowAt w D' a n sz c := by
  intro i hi'
  obtain ⟨b, o, ha, k1, r⟩ := h i hi'
  exact ⟨b, o, ha, h1 _ k1, r⟩
/-- What a slice is, beside its items: as long as it says, nil only where it is empty. -/
structure Slc (a : Option Addr) (n cap : Nat) : Prop where
  le : n ≤ cap
  big : cap ≤ maxLen
  nil : a = none → cap = 0
def ex0 : Ex := .mk 0 0 ⟨#[]⟩ []
def st0 : St := .mk 0 ⟨#[]⟩ ⟨#[]⟩ 0 ex0 [] [] 0 0
def dc0 : Dc := ⟨0, ⟨#[]⟩, 0, 0, 0⟩
/-- Expressions l lie in memory, in blocks of D, as the slice v says. -/
inductive ExsD (w : World) (D : Nat → Prop) : List Ex → Value → Prop where
  | mk (l : List Ex) (a : Option Addr) (cap : Nat) (f : Nat → Value) (hl : Slc a l.length cap)
    (hc : RowAt w D a l.length 4 (fun i => (l.getD i ex0).cells (f i)))
    (hk : ∀ i (h : i < l.length), ExsD w D l[i].of (f i)) : ExsD w D l (.slice a l.length cap)
abbrev ExsIn (w : World) (lo hi : Nat) := ExsD w (Rng lo hi)
theorem ExsD.stays {w w' : World} {D : Nat → Prop} {l : List Ex} {v : Value} (h : ExsD w D l v) (hs : StaysD D w w') : ExsD w' D l v := by
  induction h with
  | mk l a cap f hl hc _ ih => exact .mk l a cap f hl (hc.stays hs) ih
theorem ExsD.mono {w : World} {D D' : Nat → Prop} {l : List Ex} {v : Value} (h : ExsD w D l v) (h1 : ∀ k, D k → D' k) : ExsD w D' l v := by
  induction h with
  | mk l a cap f hl hc _ ih => exact .mk l a cap f hl (hc.mono h1) ih
/-- Statements l lie in memory, as the slice v says. -/
inductive StsD (w : World) (D : Nat → Prop) : List St → Value → Prop where
  | mk (l : List St) (a : Option Addr) (cap : Nat) (f g h : Nat → Value) (hl : Slc a l.length cap)
    (hc : RowAt w D a l.length 11 (fun i => (l.getD i st0).cells (f i) (g i) (h i)))
    (he : ∀ i (h : i < l.length), ExsD w D l[i].e.of (f i))
    (hb : ∀ i (h : i < l.length), StsD w D l[i].body (g i))
    (hk : ∀ i (hi' : i < l.length), StsD w D l[i].els (h i)) : StsD w D l (.slice a l.length cap)
abbrev StsIn (w : World) (lo hi : Nat) := StsD w (Rng lo hi)
theorem StsD.stays {w w' : World} {D : Nat → Prop} {l : List St} {v : Value} (h : StsD w D l v) (hs : StaysD D w w') : StsD w' D l v := by
  induction h with
  | mk l a cap f g h hl hc he _ _ ih1 ih2 => exact .mk l a cap f g h hl (hc.stays hs) (fun i hi => (he i hi).stays hs) ih1 ih2
theorem StsD.mono {w : World} {D D' : Nat → Prop} {l : List St} {v : Value} (h : StsD w D l v) (h1 : ∀ k, D k → D' k) : StsD w D' l v := by
  induction h with
  | mk l a cap f g h hl hc he _ _ ih1 ih2 => exact .mk l a cap f g h hl (hc.mono h1) (fun i hi => (he i hi).mono h1) ih1 ih2
/-- Threads. -/
structure TsD (w : World) (D : Nat → Prop) (l : List (List St)) (v : Value) : Prop where
  out : ∃ (a : Option Addr) (cap : Nat) (f : Nat → Value), v = .slice a l.length cap ∧ Slc a l.length cap ∧ RowAt w D a l.length 1 (fun i => [f i]) ∧ ∀ i (h : i < l.length), StsD w D l[i] (f i)
abbrev TsIn (w : World) (lo hi : Nat) := TsD w (Rng lo hi)
theorem TsD.stays {w w' : World} {D : Nat → Prop} {l : List (List St)} {v : Value} (h : TsD w D l v) (hs : StaysD D w w') : TsD w' D l v := by
  obtain ⟨a, cap, f, e, h1, h3, h4⟩ := h.out
  exact ⟨a, cap, f, e, h1, h3.stays hs, fun i hi => (h4 i hi).stays hs⟩
theorem TsD.mono {w : World} {D D' : Nat → Prop} {l : List (List St)} {v : Value} (h : TsD w D l v) (k1 : ∀ k, D k → D' k) : TsD w D' l v := by
  obtain ⟨a, cap, f, e, h1, h3, h4⟩ := h.out
  exact ⟨a, cap, f, e, h1, h3.mono k1, fun i hi => (h4 i hi).mono k1⟩
/-- Declarations. -/
structure DsD (w : World) (D : Nat → Prop) (l : List Dc) (v : Value) : Prop where
  out : ∃ (a : Option Addr) (cap : Nat), v = .slice a l.length cap ∧ Slc a l.length cap ∧ RowAt w D a l.length 4 (fun i => (l.getD i dc0).cells)
abbrev DsIn (w : World) (lo hi : Nat) := DsD w (Rng lo hi)
theorem DsD.stays {w w' : World} {D : Nat → Prop} {l : List Dc} {v : Value} (h : DsD w D l v) (hs : StaysD D w w') : DsD w' D l v := by
  obtain ⟨a, cap, e, h1, h3⟩ := h.out
  exact ⟨a, cap, e, h1, h3.stays hs⟩
theorem DsD.mono {w : World} {D D' : Nat → Prop} {l : List Dc} {v : Value} (h : DsD w D l v) (k1 : ∀ k, D k → D' k) : DsD w D' l v := by
  obtain ⟨a, cap, e, h1, h3⟩ := h.out
  exact ⟨a, cap, e, h1, h3.mono k1⟩
theorem ExsD.form {w : World} {D : Nat → Prop} {l : List Ex} {v : Value} (h : ExsD w D l v) : ∃ a n cap, v = .slice a n cap := by
  cases h; exact ⟨_, _, _, rfl⟩
theorem StsD.form {w : World} {D : Nat → Prop} {l : List St} {v : Value} (h : StsD w D l v) : ∃ a n cap, v = .slice a n cap := by
  cases h; exact ⟨_, _, _, rfl⟩
theorem Kept.al {a w : World} (h : Kept a w) (o : Obj) : Kept a (w.alloc o) := Below.alloc h h.size o
theorem Kept.dr {a w : World} (h : Kept a w) : Kept a w.drew := Below.drew h
theorem Kept.drN {a w : World} (h : Kept a w) (n : Nat) : Kept a (w.drewN n) := Below.trans h ⟨rfl, rfl, rfl, Nat.le_refl _, fun _ _ => rfl⟩
theorem Kept.stays {w W : World} (h : Kept w W) {lo hi : Nat} (hh : hi ≤ w.heap.size) : Stays lo hi w W := Stays.of_below h hh
theorem Rng.up {lo hi lo' hi' : Nat} (h1 : lo' ≤ lo) (h2 : hi ≤ hi') : ∀ k, Rng lo hi k → Rng lo' hi' k := fun k ⟨a, b⟩ => ⟨by omega, by omega⟩
theorem ExsD.up {w W : World} {lo hi : Nat} {l : List Ex} {v : Value} (h : ExsIn w lo hi l v) (hh : hi ≤ w.heap.size) (hb : Kept w W) : ExsIn W 0 W.heap.size l v :=
  (h.stays (hb.stays hh)).mono (Rng.up (Nat.zero_le _) (Nat.le_trans hh hb.size))
theorem StsD.up {w W : World} {lo hi : Nat} {l : List St} {v : Value} (h : StsIn w lo hi l v) (hh : hi ≤ w.heap.size) (hb : Kept w W) : StsIn W 0 W.heap.size l v :=
  (h.stays (hb.stays hh)).mono (Rng.up (Nat.zero_le _) (Nat.le_trans hh hb.size))
theorem TsD.up {w W : World} {lo hi : Nat} {l : List (List St)} {v : Value} (h : TsIn w lo hi l v) (hh : hi ≤ w.heap.size) (hb : Kept w W) : TsIn W 0 W.heap.size l v :=
  (h.stays (hb.stays hh)).mono (Rng.up (Nat.zero_le _) (Nat.le_trans hh hb.size))
theorem DsD.up {w W : World} {lo hi : Nat} {l : List Dc} {v : Value} (h : DsIn w lo hi l v) (hh : hi ≤ w.heap.size) (hb : Kept w W) : DsIn W 0 W.heap.size l v :=
  (h.stays (hb.stays hh)).mono (Rng.up (Nat.zero_le _) (Nat.le_trans hh hb.size))
theorem Kept.cellS {w w' : World} (h : Kept w w') {p : Addr} {v : Value} (hc : w.cell? p = some v) : w'.cell? p = some v := (h.cell (block_lt_of_cell hc)).trans hc
/-! ### The cells of one item -/
theorem ExsD.open {w : World} {D : Nat → Prop} {l : List Ex} {v : Value} (h : ExsD w D l v) : ∃ a cap, v = .slice a l.length cap ∧ l.length ≤ 9223372036854775807 ∧ l.length ≤ cap ∧ cap ≤ 9223372036854775807 := by
  cases h with | mk _ a cap f hl => have h1 := hl.big; have h2 := hl.le; unfold maxLen at h1; exact ⟨_, _, rfl, by omega, by omega, by omega⟩
theorem StsD.open {w : World} {D : Nat → Prop} {l : List St} {v : Value} (h : StsD w D l v) : ∃ a cap, v = .slice a l.length cap ∧ l.length ≤ 9223372036854775807 ∧ l.length ≤ cap ∧ cap ≤ 9223372036854775807 := by
  cases h with | mk _ a cap f g q hl => have h1 := hl.big; have h2 := hl.le; unfold maxLen at h1; exact ⟨_, _, rfl, by omega, by omega, by omega⟩
theorem TsD.open {w : World} {D : Nat → Prop} {l : List (List St)} {v : Value} (h : TsD w D l v) : ∃ a cap, v = .slice a l.length cap ∧ l.length ≤ 9223372036854775807 ∧ l.length ≤ cap ∧ cap ≤ 9223372036854775807 := by
  obtain ⟨a, cap, f, rfl, hl, _⟩ := h.out; have h1 := hl.big; have h2 := hl.le; unfold maxLen at h1; exact ⟨_, _, rfl, by omega, by omega, by omega⟩
theorem DsD.open {w : World} {D : Nat → Prop} {l : List Dc} {v : Value} (h : DsD w D l v) : ∃ a cap, v = .slice a l.length cap ∧ l.length ≤ 9223372036854775807 ∧ l.length ≤ cap ∧ cap ≤ 9223372036854775807 := by
  obtain ⟨a, cap, rfl, hl, _⟩ := h.out; have h1 := hl.big; have h2 := hl.le; unfold maxLen at h1; exact ⟨_, _, rfl, by omega, by omega, by omega⟩
theorem ExsD.itemD {w : World} {D : Nat → Prop} {l : List Ex} {a : Option Addr} {n cap : Nat} (h : ExsD w D l (.slice a n cap)) (k : Nat) (hk : k < l.length) :
    ∃ b o a1 n1 q1, a = some ⟨b, o, none⟩ ∧ D b ∧ (∀ j, w.frozen? ⟨b, j, none⟩ = false) ∧ w.cell? ⟨b, o + k * 4, none⟩ = some (.int .i64 l[k].kind) ∧ w.cell? ⟨b, o + k * 4 + 1, none⟩ = some (.int .i64 l[k].n) ∧
      w.cell? ⟨b, o + k * 4 + 2, none⟩ = some (.string l[k].name) ∧ w.cell? ⟨b, o + k * 4 + 3, none⟩ = some (.slice a1 n1 q1) ∧ ExsD w D l[k].of (.slice a1 n1 q1) := by
  cases h with
  | mk _ _ _ f hl hc hk' =>
    obtain ⟨b, o, ha, h1, h3, h4⟩ := hc k hk
    have e : l.getD k ex0 = l[k] := by simp [List.getD, hk]
    simp only [e] at h4
    have K := hk' k hk
    obtain ⟨a1, n1, q1, e1⟩ := K.form
    rw [e1] at h4 K
    exact ⟨b, o, a1, n1, q1, ha, h1, h3, h4 0 _ rfl, h4 1 _ rfl, h4 2 _ rfl, h4 3 _ rfl, K⟩
theorem ExsD.item {w wr : World} {lo hi : Nat} {l : List Ex} {a : Option Addr} {n cap : Nat} (h : ExsIn w lo hi l (.slice a n cap)) (hs : Stays lo hi w wr) (k : Nat) (hk : k < l.length) :
    ∃ b o a1 n1 q1, a = some ⟨b, o, none⟩ ∧ lo ≤ b ∧ b < hi ∧ (∀ j, wr.frozen? ⟨b, j, none⟩ = false) ∧ wr.cell? ⟨b, o + k * 4, none⟩ = some (.int .i64 l[k].kind) ∧ wr.cell? ⟨b, o + k * 4 + 1, none⟩ = some (.int .i64 l[k].n) ∧
      wr.cell? ⟨b, o + k * 4 + 2, none⟩ = some (.string l[k].name) ∧ wr.cell? ⟨b, o + k * 4 + 3, none⟩ = some (.slice a1 n1 q1) ∧ ExsIn wr lo hi l[k].of (.slice a1 n1 q1) := by
  obtain ⟨b, o, a1, n1, q1, ha, ⟨h1, h2⟩, r⟩ := (h.stays hs).itemD k hk
  exact ⟨b, o, a1, n1, q1, ha, h1, h2, r⟩
theorem StsD.itemD {w : World} {D : Nat → Prop} {l : List St} {a : Option Addr} {n cap : Nat} (h : StsD w D l (.slice a n cap)) (k : Nat) (hk : k < l.length) :
    ∃ b o a1 n1 q1 a2 n2 q2 a3 n3 q3, a = some ⟨b, o, none⟩ ∧ D b ∧ (∀ j, w.frozen? ⟨b, j, none⟩ = false) ∧ w.cell? ⟨b, o + k * 11, none⟩ = some (.int .i64 l[k].kind) ∧ w.cell? ⟨b, o + k * 11 + 1, none⟩ = some (.string l[k].name) ∧
      w.cell? ⟨b, o + k * 11 + 2, none⟩ = some (.string l[k].other) ∧ w.cell? ⟨b, o + k * 11 + 3, none⟩ = some (.int .i64 l[k].n) ∧ w.cell? ⟨b, o + k * 11 + 4, none⟩ = some (.int .i64 l[k].e.kind) ∧
      w.cell? ⟨b, o + k * 11 + 5, none⟩ = some (.int .i64 l[k].e.n) ∧ w.cell? ⟨b, o + k * 11 + 6, none⟩ = some (.string l[k].e.name) ∧ w.cell? ⟨b, o + k * 11 + 7, none⟩ = some (.slice a1 n1 q1) ∧ w.cell? ⟨b, o + k * 11 + 8, none⟩ = some (.slice a2 n2 q2) ∧
      w.cell? ⟨b, o + k * 11 + 9, none⟩ = some (.slice a3 n3 q3) ∧ w.cell? ⟨b, o + k * 11 + 10, none⟩ = some (.complex .f64 l[k].re l[k].im) ∧
      ExsD w D l[k].e.of (.slice a1 n1 q1) ∧ StsD w D l[k].body (.slice a2 n2 q2) ∧ StsD w D l[k].els (.slice a3 n3 q3) := by
  cases h with
  | mk _ _ _ f g q hl hc he hb hq =>
    obtain ⟨b, o, ha, h1, h3, h4⟩ := hc k hk
    have e : l.getD k st0 = l[k] := by simp [List.getD, hk]
    simp only [e] at h4
    have K1 := he k hk
    have K2 := hb k hk
    have K3 := hq k hk
    obtain ⟨a1, n1, q1, e1⟩ := K1.form
    obtain ⟨a2, n2, q2, e2⟩ := K2.form
    obtain ⟨a3, n3, q3, e3⟩ := K3.form
    rw [e1] at K1
    rw [e2] at K2
    rw [e3] at K3
    rw [e1, e2, e3] at h4
    exact ⟨b, o, a1, n1, q1, a2, n2, q2, a3, n3, q3, ha, h1, h3, h4 0 _ rfl, h4 1 _ rfl, h4 2 _ rfl, h4 3 _ rfl, h4 4 _ rfl, h4 5 _ rfl, h4 6 _ rfl, h4 7 _ rfl, h4 8 _ rfl, h4 9 _ rfl, h4 10 _ rfl, K1, K2, K3⟩
theorem StsD.item {w wr : World} {lo hi : Nat} {l : List St} {a : Option Addr} {n cap : Nat} (h : StsIn w lo hi l (.slice a n cap)) (hs : Stays lo hi w wr) (k : Nat) (hk : k < l.length) :
    ∃ b o a1 n1 q1 a2 n2 q2 a3 n3 q3, a = some ⟨b, o, none⟩ ∧ lo ≤ b ∧ b < hi ∧ (∀ j, wr.frozen? ⟨b, j, none⟩ = false) ∧ wr.cell? ⟨b, o + k * 11, none⟩ = some (.int .i64 l[k].kind) ∧ wr.cell? ⟨b, o + k * 11 + 1, none⟩ = some (.string l[k].name) ∧
      wr.cell? ⟨b, o + k * 11 + 2, none⟩ = some (.string l[k].other) ∧ wr.cell? ⟨b, o + k * 11 + 3, none⟩ = some (.int .i64 l[k].n) ∧ wr.cell? ⟨b, o + k * 11 + 4, none⟩ = some (.int .i64 l[k].e.kind) ∧
      wr.cell? ⟨b, o + k * 11 + 5, none⟩ = some (.int .i64 l[k].e.n) ∧ wr.cell? ⟨b, o + k * 11 + 6, none⟩ = some (.string l[k].e.name) ∧ wr.cell? ⟨b, o + k * 11 + 7, none⟩ = some (.slice a1 n1 q1) ∧ wr.cell? ⟨b, o + k * 11 + 8, none⟩ = some (.slice a2 n2 q2) ∧
      wr.cell? ⟨b, o + k * 11 + 9, none⟩ = some (.slice a3 n3 q3) ∧ wr.cell? ⟨b, o + k * 11 + 10, none⟩ = some (.complex .f64 l[k].re l[k].im) ∧
      ExsIn wr lo hi l[k].e.of (.slice a1 n1 q1) ∧ StsIn wr lo hi l[k].body (.slice a2 n2 q2) ∧ StsIn wr lo hi l[k].els (.slice a3 n3 q3) := by
  obtain ⟨b, o, a1, n1, q1, a2, n2, q2, a3, n3, q3, ha, ⟨h1, h2⟩, r⟩ := (h.stays hs).itemD k hk
  exact ⟨b, o, a1, n1, q1, a2, n2, q2, a3, n3, q3, ha, h1, h2, r⟩
theorem DsD.itemD {w : World} {D : Nat → Prop} {l : List Dc} {a : Option Addr} {n cap : Nat} (h : DsD w D l (.slice a n cap)) (k : Nat) (hk : k < l.length) :
    ∃ b o, a = some ⟨b, o, none⟩ ∧ D b ∧ (∀ j, w.frozen? ⟨b, j, none⟩ = false) ∧ w.cell? ⟨b, o + k * 4, none⟩ = some (.int .i64 l[k].kind) ∧ w.cell? ⟨b, o + k * 4 + 1, none⟩ = some (.string l[k].name) ∧
      w.cell? ⟨b, o + k * 4 + 2, none⟩ = some (.int .i64 l[k].n) ∧ w.cell? ⟨b, o + k * 4 + 3, none⟩ = some (.complex .f64 l[k].re l[k].im) := by
  obtain ⟨a, cap, e, h1, h3⟩ := h.out
  cases e
  obtain ⟨b, o, ha, h1, h3, h4⟩ := h3 k hk
  have e : l.getD k dc0 = l[k] := by simp [List.getD, hk]
  simp only [e] at h4
  exact ⟨b, o, ha, h1, h3, h4 0 _ rfl, h4 1 _ rfl, h4 2 _ rfl, h4 3 _ rfl⟩
theorem DsD.item {w wr : World} {lo hi : Nat} {l : List Dc} {a : Option Addr} {n cap : Nat} (h : DsIn w lo hi l (.slice a n cap)) (hs : Stays lo hi w wr) (k : Nat) (hk : k < l.length) :
    ∃ b o, a = some ⟨b, o, none⟩ ∧ lo ≤ b ∧ b < hi ∧ (∀ j, wr.frozen? ⟨b, j, none⟩ = false) ∧ wr.cell? ⟨b, o + k * 4, none⟩ = some (.int .i64 l[k].kind) ∧ wr.cell? ⟨b, o + k * 4 + 1, none⟩ = some (.string l[k].name) ∧
      wr.cell? ⟨b, o + k * 4 + 2, none⟩ = some (.int .i64 l[k].n) ∧ wr.cell? ⟨b, o + k * 4 + 3, none⟩ = some (.complex .f64 l[k].re l[k].im) := by
  obtain ⟨b, o, ha, ⟨h1, h2⟩, r⟩ := (h.stays hs).itemD k hk
  exact ⟨b, o, ha, h1, h2, r⟩
theorem RowAt.one {w : World} {D : Nat → Prop} {n : Nat} {a : Option Addr} {f : Nat → Value} (h : RowAt w D a n 1 (fun i => [f i])) (k : Nat) (hk : k < n) :
    ∃ b o, a = some ⟨b, o, none⟩ ∧ D b ∧ (∀ j, w.frozen? ⟨b, j, none⟩ = false) ∧ w.cell? ⟨b, o + k, none⟩ = some (f k) := by
  obtain ⟨b, o, ha, h1, h3, h4⟩ := h k hk
  have := h4 0 _ rfl
  rw [Nat.mul_one] at this
  exact ⟨b, o, ha, h1, h3, this⟩
theorem TsD.itemD {w : World} {D : Nat → Prop} {l : List (List St)} {a : Option Addr} {n cap : Nat} (h : TsD w D l (.slice a n cap)) (k : Nat) (hk : k < l.length) :
    ∃ b o a1 n1 q1, a = some ⟨b, o, none⟩ ∧ D b ∧ (∀ j, w.frozen? ⟨b, j, none⟩ = false) ∧ w.cell? ⟨b, o + k, none⟩ = some (.slice a1 n1 q1) ∧ StsD w D l[k] (.slice a1 n1 q1) := by
  obtain ⟨a, cap, f, e, h1, h3, h4⟩ := h.out
  cases e
  obtain ⟨b, o, ha, k1, k3, c0⟩ := h3.one k hk
  have K := h4 k hk
  obtain ⟨a1, n1, q1, e1⟩ := K.form
  rw [e1] at c0 K
  exact ⟨b, o, a1, n1, q1, ha, k1, k3, c0, K⟩
theorem TsD.item {w wr : World} {lo hi : Nat} {l : List (List St)} {a : Option Addr} {n cap : Nat} (h : TsIn w lo hi l (.slice a n cap)) (hs : Stays lo hi w wr) (k : Nat) (hk : k < l.length) :
    ∃ b o a1 n1 q1, a = some ⟨b, o, none⟩ ∧ lo ≤ b ∧ b < hi ∧ (∀ j, wr.frozen? ⟨b, j, none⟩ = false) ∧ wr.cell? ⟨b, o + k, none⟩ = some (.slice a1 n1 q1) ∧ StsIn wr lo hi l[k] (.slice a1 n1 q1) := by
  obtain ⟨b, o, a1, n1, q1, ha, ⟨h1, h2⟩, r⟩ := (h.stays hs).itemD k hk
  exact ⟨b, o, a1, n1, q1, ha, h1, h2, r⟩
end Go.Proofs.Ytnfkjmafhaecgaa
namespace Go.Proofs.Ytnfkjmafhaecgaa
open Go.RowKit
/-- t is a slice's type, e its items': their zero value, cells, bytes. -/
structure ElemOf (P : Program) (t e : TypeId) (z : Value) (size bytes : Nat) : Prop where
  under : P.underlying t = some (.slice e)
  info : (P.info? e).map (fun i => (i.zero, i.size, i.bytes)) = some (some z, size, bytes)
  zs : z.cells.size = size
  pos : 0 < size
theorem ElemOf.get {P : Program} {t e : TypeId} {z : Value} {size bytes : Nat} (h : ElemOf P t e z size bytes) : ∃ i, P.info? e = some i ∧ i.zero = some z ∧ i.size = size ∧ i.bytes = bytes := by
  have h := h.info
  cases hi : P.info? e with
  | none => rw [hi] at h; cases h
  | some i =>
    rw [hi] at h
    simp only [Option.map_some, Option.some.injEq, Prod.mk.injEq] at h
    exact ⟨i, rfl, h.1, h.2.1, h.2.2⟩
/-- Behind an append: the row is longer, and lies where it lay, or in a block that was just made. -/
structure Grew (w : World) (base e size : Nat) (v : Value) (n : Nat) (xs : List Value) (m : Nat) (news : List Value) (v' : Value) (w' : World) : Prop where
  own : w'.ownsRow base e size v' (n + m) (xs ++ news)
  grown : w.grownBy w' v.ownBlock
  lies : v'.ownBlock = v.ownBlock ∨ v'.ownBlock = some w.heap.size
theorem own_slice {w : World} {base e size : Nat} {v : Value} {n : Nat} {xs : List Value} (h : w.ownsRow base e size v n xs) : ∃ a cap, v = .slice a n cap ∧ Slc a n cap := by
  rcases h.2 with ⟨rfl, rfl⟩ | ⟨g, cap, cur, rfl, _, _, h1, h2, _⟩
  · exact ⟨_, _, rfl, Nat.le_refl _, Nat.zero_le _, fun _ => rfl⟩
  · exact ⟨_, _, rfl, h1, h2, fun h => by cases h⟩
theorem run_append_rows {P : Program} {t e : TypeId} {z : Value} {size bytes : Nat} (E : ElemOf P t e z size bytes) (ty : TypeId) {w : World} {base : Nat} {v : Value} {n : Nat} {xs : List Value} (hown : w.ownsRow base e size v n xs)
    {base' : Nat} {vs : Value} {m : Nat} {news : List Value} (hsrc : w.ownsRow base' e size vs m news) (h1 : ∀ u ∈ news, u.oneCell' = true) (hb : (n + m) * bytes ≤ 140737488355328) (h63 : n + m ≤ maxLen) (hbase : base ≤ w.heap.size) :
    ∃ v' w', (Builtin.append_ #[t, t] ty #[v, vs]).run P w = .ok v' w' ∧ Grew w base e size v n xs m news v' w' := by
  obtain ⟨i, hi, hz, hs, hby⟩ := E.get
  rcases hsrc.2 with ⟨rfl, rfl⟩ | ⟨g, cap, cur, rfl, _, hg, hnc, hcm, hcs, htake⟩
  · have hx : news = [] := List.eq_nil_of_length_eq_zero (by simpa using hsrc.1)
    subst hx
    exact ⟨v, w, run_append_owned_none (P := P) w base t ty e i size E.under hi v n xs hown, by simpa using hown, ⟨rfl, rfl, rfl, Nat.le_refl _, fun _ _ _ => rfl⟩, .inl rfl⟩
  · obtain ⟨v', w', hr, h2, h3, _, h5⟩ := run_append_own_at (P := P) w base t ty e i z size bytes E.under hi hz hs hby E.zs E.pos v n xs hown ⟨g, 0, none⟩ m cap news hsrc.1 (hsrc.cells rfl) h1 h63 hb hbase
    exact ⟨v', w', hr, h2, h3, h5⟩
theorem wpList_append_rows {P : Program} {w : World} {ops : Array Oper} {rest : List Oper} {o : Oper} {a : Act} {Q : Exit → Act → World → Prop} (hgd : o.guard = none) (s x : Operand) (t : TypeId)
    (ho : o.op = .call { callee := .builtin .append, args := #[s, x], argTypes := #[t, t] })
    {e : TypeId} {z : Value} {size bytes : Nat} (E : ElemOf P t e z size bytes) {base : Nat} {v : Value} {n : Nat} {xs : List Value} (hs : a.eval s = v) (hown : w.ownsRow base e size v n xs)
    {base' : Nat} {vs : Value} {m : Nat} {news : List Value} (hx : a.eval x = vs) (hsrc : w.ownsRow base' e size vs m news) (h1 : ∀ u ∈ news, u.oneCell' = true) (hb : (n + m) * bytes ≤ 140737488355328) (h63 : n + m ≤ maxLen) (hbase : base ≤ w.heap.size)
    (h : ∀ ad cap w', Hid (Grew w base e size v n xs m news (.slice ad (n + m) cap) w') → wpList P ops Q rest (a.put o.dst (.slice ad (n + m) cap)) w') : wpList P ops Q (o :: rest) a w := by
  refine wpList_plain hgd fun K hK => ?_
  obtain ⟨v', w', hr, hG⟩ := run_append_rows E o.type hown hsrc h1 hb h63 hbase
  obtain ⟨ad, cap, rfl, _⟩ := own_slice hG.own
  unfold Oper.wp execOp
  simp only [ho, resolve, invoke, builtin, Sem.run_bind, Sem.run_pure, Result.andThen_ok, List.map_toArray, List.map_cons, List.map_nil, hs, hx, hr]
  exact hK _ _ (h ad cap w' hG)
/-- The row that a literal of one item lays. -/
theorem own_lit {w : World} (base e size : Nat) (cs : Array Value) (hs : cs.size = size) (hb : base ≤ w.heap.size) : (w.alloc (.cells cs e)).ownsRow base e size (.slice (some ⟨w.heap.size, 0, none⟩) 1 1) 1 cs.toList :=
  World.ownsRow_lit w cs 1 hb (by unfold maxLen; omega) (by simpa using hs)
theorem Grew.below {w w0 : World} {base e size : Nat} {v : Value} {n : Nat} {xs : List Value} {m : Nat} {news : List Value} {v' : Value} {w' : World} (h : Grew w base e size v n xs m news v' w') (hown : w.ownsRow base e size v n xs) {B : Nat} (hB : B ≤ base) (hbase : base ≤ w.heap.size) (hb : Below B w0 w) : Below B w0 w' :=
  hb.grown h.grown (by omega) fun k hk => by have := hown.lt k hk; omega
/-! ### A row that is written over -/
/-- Block g is a row of n items of sz cells, item i as c i, and may be written. -/
structure RowNow (w : World) (g n sz : Nat) (c : Nat → List Value) : Prop where
  fz : ∀ j, w.frozen? ⟨g, j, none⟩ = false
  cells : ∀ i, i < n → w.rangeAt g (i * sz) (c i)
  len : ∀ i, i < n → (c i).length = sz
theorem RowNow.stays {w w' : World} {g n sz : Nat} {c : Nat → List Value} (h : RowNow w g n sz c) (hg : w'.heap[g]? = w.heap[g]?) : RowNow w' g n sz c :=
  ⟨fun j => by rw [World.frozen?_of_block (w := w) (a := ⟨g, j, none⟩) hg]; exact h.fz j,
   fun i hi j v hv => by rw [World.cell?_of_block (w := w) (a := ⟨g, i * sz + j, none⟩) hg]; exact h.cells i hi j v hv, h.len⟩
theorem RowNow.there {w : World} {g n sz : Nat} {c : Nat → List Value} (h : RowNow w g n sz c) (k : Nat) (hk : k < n) : w.there g (k * sz) sz := by
  intro j hj
  have hl := h.len k hk
  refine ⟨?_, h.fz _⟩
  rw [h.cells k hk j _ (List.getElem?_eq_getElem (by omega))]; rfl
theorem RowNow.set {w : World} {g n sz : Nat} {c : Nat → List Value} (h : RowNow w g n sz c) (k : Nat) (hk : k < n) (cs : List Value) (hl : cs.length = sz) : RowNow (w.setCells g (k * sz) cs) g n sz (fun i => if i = k then cs else c i) := by
  refine ⟨fun j => by rw [World.frozen?_setCells]; exact h.fz j, fun i hi => ?_, fun i hi => ?_⟩
  · by_cases e : i = k
    · subst e
      simp only [if_pos]
      exact World.rangeAt_setCells_same w g _ cs (by rw [hl]; exact h.there i hk)
    · simp only [if_neg e]
      refine World.rangeAt_setCells_apart (h.cells i hi) g _ cs (.inr ?_)
      rw [h.len i hi, hl]
      rcases Nat.lt_or_gt_of_ne e with e | e
      · left
        have : (i + 1) * sz ≤ k * sz := Nat.mul_le_mul_right _ e
        rw [Nat.add_mul] at this; omega
      · right
        have : (k + 1) * sz ≤ i * sz := Nat.mul_le_mul_right _ e
        rw [Nat.add_mul] at this; omega
  · by_cases e : i = k
    · simp only [if_pos e]; exact hl
    · simp only [if_neg e]; exact h.len i hi
theorem heap_setCells (b : Nat) : ∀ (vs : List Value) (o : Nat) (w : World) (k : Nat), k ≠ b → (w.setCells b o vs).heap[k]? = w.heap[k]?
  | [], _, _, _, _ => rfl
  | v :: r, o, w, k, h => by
    rw [World.setCells, heap_setCells b r (o + 1) _ k h]
    exact Below.heap_setCell w _ v k h
theorem size_setCells (b : Nat) : ∀ (vs : List Value) (o : Nat) (w : World), (w.setCells b o vs).heap.size = w.heap.size
  | [], _, _ => rfl
  | v :: r, o, w => by rw [World.setCells, size_setCells b r (o + 1) _]; simp [World.setCell]
theorem Below.setCells {B : Nat} {w0 w : World} (h : Below B w0 w) {b : Nat} (hb : B ≤ b) : ∀ (vs : List Value) (o : Nat), Below B w0 (w.setCells b o vs) := fun vs => by
  induction vs generalizing w with
  | nil => intro o; exact h
  | cons v r ih => intro o; rw [World.setCells]; exact ih (h.setCell hb v) (o + 1)
/-! ### copy -/
/-! ### A result that lies in memory -/
theorem results_cell_mid {P : Program} {fn : Func} {p : Tmp} {ty : TypeId} (h : fn.results = #[.cell p ty]) (tmps : Array Value) (w : World) (b o : Nat) (cs : List Value) (d : TypeDesc)
    (hp : tmps.getD p undef = .pointer (some ⟨b, o, none⟩)) (hc : w.rangeAt b o cs) (hu : P.underlying ty = some d) (hd : d.isRow = true) (hi : (P.info? ty).map (·.size) = some cs.length) :
    (results fn tmps).run P w = .ok (.agg cs.toArray) w := by
  have hp' : tmps[p]?.getD undef = .pointer (some ⟨b, o, none⟩) := by simpa using hp
  simp [results, h, hp', asAddr, run_loadVar_mid w b o ty cs d hc hu hd hi]
/-- 'there' out of cells and marks. -/
theorem there_of {w : World} {b o : Nat} (n : Nat) (h : ∀ j, j < n → ∃ v, w.cell? ⟨b, o + j, none⟩ = some v) (hf : ∀ j, w.frozen? ⟨b, j, none⟩ = false) : w.there b o n := fun j hj => by
  obtain ⟨v, hv⟩ := h j hj
  exact ⟨by rw [hv]; rfl, hf _⟩
end Go.Proofs.Ytnfkjmafhaecgaa
namespace Go.Proofs.Ytnfkjmafhaecgaa
open Go.RowKit
theorem ExsD.nil (w : World) (D : Nat → Prop) : ExsD w D [] (.slice none 0 0) :=
  .mk [] none 0 (fun _ => undef) ⟨Nat.le_refl _, by unfold maxLen; omega, fun _ => rfl⟩ (fun i hi => by simp at hi) fun i hi => by simp at hi
/-- A row of one. -/
theorem ExsD.one {w : World} {D : Nat → Prop} {g : Nat} {e : Ex} {v : Value} (hD : D g) (hg : w.heap[g]? = some (.cells #[.int .i64 e.kind, .int .i64 e.n, .string e.name, v] 44 (0, 0))) (hv : ExsD w D e.of v) : ExsD w D [e] (.slice (some ⟨g, 0, none⟩) 1 1) := by
  refine .mk [e] (some ⟨g, 0, none⟩) 1 (fun _ => v) ⟨Nat.le_refl _, by unfold maxLen; omega, fun h => by cases h⟩ (fun i hi => ?_) fun i hi => ?_
  · obtain rfl : i = 0 := by simpa using hi
    refine ⟨g, 0, rfl, hD, fun j => frozen_of_row w g j _ _ hg, fun j u hu => ?_⟩
    rw [cell_of_row w g _ _ _ (0, 0) hg]
    match j, hu with
    | 0, hu | 1, hu | 2, hu | 3, hu => simpa [List.getD, Ex.cells] using hu
  · obtain rfl : i = 0 := by simpa using hi
    exact hv
/-- A row of two. -/
theorem ExsD.two {w : World} {D : Nat → Prop} {g : Nat} {e f : Ex} {v u : Value} (hD : D g) (hg : w.heap[g]? = some (.cells #[.int .i64 e.kind, .int .i64 e.n, .string e.name, v, .int .i64 f.kind, .int .i64 f.n, .string f.name, u] 44 (0, 0))) (hv : ExsD w D e.of v) (hu : ExsD w D f.of u) : ExsD w D [e, f] (.slice (some ⟨g, 0, none⟩) 2 2) := by
  refine .mk [e, f] (some ⟨g, 0, none⟩) 2 (fun i => if i = 0 then v else u) ⟨Nat.le_refl _, by unfold maxLen; omega, fun h => by cases h⟩ (fun i hi => ?_) fun i hi => ?_
  · refine ⟨g, 0, rfl, hD, fun j => frozen_of_row w g j _ _ hg, fun j x hx => ?_⟩
    rw [cell_of_row w g _ _ _ (0, 0) hg]
    match i, hi with
    | 0, _ =>
      match j, hx with
      | 0, hu | 1, hu | 2, hu | 3, hu => simpa [List.getD, Ex.cells] using hu
    | 1, _ =>
      match j, hx with
      | 0, hu | 1, hu | 2, hu | 3, hu => simpa [List.getD, Ex.cells] using hu
  · match i, hi with
    | 0, _ => exact hv
    | 1, _ => exact hu
end Go.Proofs.Ytnfkjmafhaecgaa
