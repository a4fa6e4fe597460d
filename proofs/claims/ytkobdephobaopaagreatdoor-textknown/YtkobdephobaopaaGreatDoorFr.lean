/- What holds at each label of lex.split, in plain words: the frame, the memory, the tokens so far; and a measure. -/
import Derived.Test.YtkobdephobaopaaGreatDoorWkB
import Derived.Test.YtkobdephobaopaaGreatDoorWkA
import Derived.Deep.AppendLies
import Derived.WalkMore
namespace Go.Proofs.YtkobdephobaopaaGreatDoor
open Go.RowKit

noncomputable def splitBody : Code := (scopeIn (Tryz.f52.body.getD .skip)).getD .skip


/-- A token's cells. -/
def tkCells (s : ByteArray) (t : Lx.Tk) : List Value := [.int .i64 (t.kind : Int), .string ⟨t.text.toArray⟩, .int .i64 (t.n : Int), .complex .f64 (lineW s t.at') (colW s t.at')]
def cellsOf (s : ByteArray) (ts : List Lx.Tk) : List Value := ts.flatMap (tkCells s)
theorem cellsOf_snoc (s : ByteArray) (ts : List Lx.Tk) (t : Lx.Tk) : cellsOf s (ts ++ [t]) = cellsOf s ts ++ tkCells s t := by simp [cellsOf]
theorem cellsOf_length (s : ByteArray) (ts : List Lx.Tk) : (cellsOf s ts).length = ts.length * 4 := by
  induction ts with
  | nil => rfl
  | cons t r ih =>
    have e : cellsOf s (t :: r) = tkCells s t ++ cellsOf s r := rfl
    rw [e, List.length_append, ih, List.length_cons]
    show 4 + _ = _
    omega

/-- The tokens so far. -/
structure Inv (s : ByteArray) (w0 : World) (R : Lx.Out) (k p : Nat) (acc : List Lx.Tk) (f x fst : Nat) (list : Value) (w : World) : Prop where
  kp : k ≤ p
  ps : p ≤ s.size
  fuel : s.size < f + p
  run : (Lx.run f p (s.data.toList.drop p)).pre acc = R
  fk : fst ≤ k
  spot : Sp.spot (s.data.toList.take k) = (x, k - fst + 1)
  own : w.ownsRow (w0.heap.size + 1) 68 4 list acc.length (cellsOf s acc)
  bel : Below w0.heap.size w0 w
  acl : acc.length ≤ p

/-- The token that is being made. -/
structure Box (w : World) (B : Nat) (c0 c1 c2 c3 : Value) : Prop where
  b0 : w.cell? ⟨B, 0, none⟩ = some c0
  b1 : w.cell? ⟨B, 1, none⟩ = some c1
  b2 : w.cell? ⟨B, 2, none⟩ = some c2
  b3 : w.cell? ⟨B, 3, none⟩ = some c3
  z0 : w.frozen? ⟨B, 0, none⟩ = false
  z1 : w.frozen? ⟨B, 1, none⟩ = false
  z2 : w.frozen? ⟨B, 2, none⟩ = false
  z3 : w.frozen? ⟨B, 3, none⟩ = false

theorem Box.lt {w : World} {B : Nat} {c0 c1 c2 c3 : Value} (h : Box w B c0 c1 c2 c3) : B < w.heap.size := World.block_lt_of_cell? w _ h.b0

theorem addr_ne {B i j : Nat} (h : i ≠ j) : (⟨B, i, none⟩ : Addr) ≠ ⟨B, j, none⟩ := by intro e; exact h (Addr.mk.inj e).2.1

theorem Box.set0 {w : World} {B : Nat} {c0 c1 c2 c3 : Value} (h : Box w B c0 c1 c2 c3) (v : Value) : Box (w.setCell ⟨B, 0, none⟩ v) B v c1 c2 c3 :=
  ⟨World.cell?_setCell_same w _ _ h.b0, by rw [World.cell?_setCell_other w _ _ _ (addr_ne (by decide))]; exact h.b1, by rw [World.cell?_setCell_other w _ _ _ (addr_ne (by decide))]; exact h.b2, by rw [World.cell?_setCell_other w _ _ _ (addr_ne (by decide))]; exact h.b3,
    by simp [h.z0], by simp [h.z1], by simp [h.z2], by simp [h.z3]⟩
theorem Box.set1 {w : World} {B : Nat} {c0 c1 c2 c3 : Value} (h : Box w B c0 c1 c2 c3) (v : Value) : Box (w.setCell ⟨B, 1, none⟩ v) B c0 v c2 c3 :=
  ⟨by rw [World.cell?_setCell_other w _ _ _ (addr_ne (by decide))]; exact h.b0, World.cell?_setCell_same w _ _ h.b1, by rw [World.cell?_setCell_other w _ _ _ (addr_ne (by decide))]; exact h.b2, by rw [World.cell?_setCell_other w _ _ _ (addr_ne (by decide))]; exact h.b3,
    by simp [h.z0], by simp [h.z1], by simp [h.z2], by simp [h.z3]⟩
theorem Box.set2 {w : World} {B : Nat} {c0 c1 c2 c3 : Value} (h : Box w B c0 c1 c2 c3) (v : Value) : Box (w.setCell ⟨B, 2, none⟩ v) B c0 c1 v c3 :=
  ⟨by rw [World.cell?_setCell_other w _ _ _ (addr_ne (by decide))]; exact h.b0, by rw [World.cell?_setCell_other w _ _ _ (addr_ne (by decide))]; exact h.b1, World.cell?_setCell_same w _ _ h.b2, by rw [World.cell?_setCell_other w _ _ _ (addr_ne (by decide))]; exact h.b3,
    by simp [h.z0], by simp [h.z1], by simp [h.z2], by simp [h.z3]⟩
theorem Box.set3 {w : World} {B : Nat} {c0 c1 c2 c3 : Value} (h : Box w B c0 c1 c2 c3) (v : Value) : Box (w.setCell ⟨B, 3, none⟩ v) B c0 c1 c2 v :=
  ⟨by rw [World.cell?_setCell_other w _ _ _ (addr_ne (by decide))]; exact h.b0, by rw [World.cell?_setCell_other w _ _ _ (addr_ne (by decide))]; exact h.b1, by rw [World.cell?_setCell_other w _ _ _ (addr_ne (by decide))]; exact h.b2, World.cell?_setCell_same w _ _ h.b3,
    by simp [h.z0], by simp [h.z1], by simp [h.z2], by simp [h.z3]⟩
theorem Box.block {w w' : World} {B : Nat} {c0 c1 c2 c3 : Value} (h : Box w B c0 c1 c2 c3) (hb : w'.heap[B]? = w.heap[B]?) : Box w' B c0 c1 c2 c3 := by
  have hc : ∀ i, w'.cell? ⟨B, i, none⟩ = w.cell? ⟨B, i, none⟩ := fun i => World.cell?_of_block (a := ⟨B, i, none⟩) hb
  have hz : ∀ i, w'.frozen? ⟨B, i, none⟩ = w.frozen? ⟨B, i, none⟩ := fun i => World.frozen?_of_block (a := ⟨B, i, none⟩) hb
  exact ⟨(hc 0).trans h.b0, (hc 1).trans h.b1, (hc 2).trans h.b2, (hc 3).trans h.b3, (hz 0).trans h.z0, (hz 1).trans h.z1, (hz 2).trans h.z2, (hz 3).trans h.z3⟩

/-- A store into the token that is being made leaves the rest. -/
theorem Inv.set {s : ByteArray} {w0 : World} {R : Lx.Out} {k p : Nat} {acc : List Lx.Tk} {f x fst : Nat} {list : Value} {w : World} (h : Inv s w0 R k p acc f x fst list w) (i : Nat) (v : Value) : Inv s w0 R k p acc f x fst list (w.setCell ⟨w0.heap.size, i, none⟩ v) :=
  { h with own := ownsRow_setCell_below h.own (Nat.lt_succ_self _) v, bel := h.bel.setCell (Nat.le_refl _) v }

/-- The frame, as far as it is read across jumps. -/
structure Slots (a : Act) (s : ByteArray) (line fst at' en gd list box : Value) : Prop where
  size : a.tmps.size = 143
  df : a.defers = []
  v0 : a.tmps.getD 0 undef = .string s
  v5 : a.tmps.getD 5 undef = line
  v6 : a.tmps.getD 6 undef = fst
  v7 : a.tmps.getD 7 undef = at'
  v8 : a.tmps.getD 8 undef = en
  v9 : a.tmps.getD 9 undef = gd
  v10 : a.tmps.getD 10 undef = list
  v11 : a.tmps.getD 11 undef = box

/-- Where a note ends. -/
def stopAt (s : ByteArray) (k : Nat) : Bool := match s.data.toList[k]? with | none => true | some c => c == 10

def mu (N l k e : Nat) (stop : Bool) : Nat :=
  match l with
  | 0 => (N - k) * 20000 + 15000
  | 1 => (N - k) * 20000 + (if stop then 16000 else 14000)
  | 2 => (N - k) * 20000 + (N - e) + 5
  | 3 => (N - k) * 20000 + (N - e) + 5
  | 4 => (N - k) * 20000 + 4
  | _ => (N - k) * 20000 + 3

def natAt (a : Act) (i : Nat) : Nat := (intOf (a.tmps.getD i undef)).toNat
def mu' (s : ByteArray) (l : Nat) (a : Act) (_ : World) : Nat := mu s.size l (natAt a 7) (natAt a 8) (stopAt s (natAt a 7))

theorem Slots.muE {a : Act} {s : ByteArray} {line fst gd list box : Value} {k e : Nat} (h : Slots a s line fst (.int .i64 (k : Int)) (.int .i64 (e : Int)) gd list box) (l : Nat) (w : World) : mu' s l a w = mu s.size l k e (stopAt s k) := by
  unfold mu' natAt
  rw [h.v7, h.v8]
  rfl
theorem Slots.mu0 {a : Act} {s : ByteArray} {line fst en gd list box : Value} {k : Nat} (h : Slots a s line fst (.int .i64 (k : Int)) en gd list box) (w : World) : mu' s 0 a w = mu s.size 0 k 0 true := by
  unfold mu' natAt
  rw [h.v7]
  rfl
theorem Slots.mu1 {a : Act} {s : ByteArray} {line fst en gd list box : Value} {k : Nat} (h : Slots a s line fst (.int .i64 (k : Int)) en gd list box) (w : World) : mu' s 1 a w = mu s.size 1 k 0 (stopAt s k) := by
  unfold mu' natAt
  rw [h.v7]
  rfl

abbrev one64 : Nat := 4607182418800017408
abbrev boxAt (w0 : World) : Value := .pointer (some ⟨w0.heap.size, 0, none⟩)

def J (s : ByteArray) (w0 : World) (R : Lx.Out) : Nat → Act → World → Prop
  | 0, a, w => ∃ (k : Nat) (acc : List Lx.Tk) (f x fst : Nat) (en gd list c0 c1 c2 c3 : Value), Slots a s (.complex .f64 (Fp.rung x) one64) (.int .i64 (fst : Int)) (.int .i64 (k : Int)) en gd list (boxAt w0) ∧ Inv s w0 R k k acc f x fst list w ∧ Box w w0.heap.size c0 c1 c2 c3
  | 1, a, w => ∃ (k : Nat) (acc : List Lx.Tk) (f x fst : Nat) (en gd list c0 c1 c2 c3 : Value), Slots a s (.complex .f64 (Fp.rung x) one64) (.int .i64 (fst : Int)) (.int .i64 (k : Int)) en gd list (boxAt w0) ∧ Inv s w0 R k (Lx.span Lx.noFeed s.data.toList k) acc f x fst list w ∧ Box w w0.heap.size c0 c1 c2 c3
  | 2, a, w => ∃ (k e : Nat) (acc : List Lx.Tk) (f x fst : Nat) (gd list : Value), Slots a s (.complex .f64 (Fp.rung x) one64) (.int .i64 (fst : Int)) (.int .i64 (k : Int)) (.int .i64 (e : Int)) gd list (boxAt w0) ∧ Inv s w0 R k k acc (f + 1) x fst list w ∧ Box w w0.heap.size (.int .i64 0) (.string ⟨#[]⟩) (.int .i64 0) (.complex .f64 (lineW s k) (colW s k)) ∧
      k ≤ e ∧ e < s.size ∧ (∃ h : k < s.size, Lx.lower s[k] = true) ∧ Lx.span Lx.goes s.data.toList (k + 1) = Lx.span Lx.goes s.data.toList (e + 1)
  | 3, a, w => ∃ (k e : Nat) (acc : List Lx.Tk) (f x fst : Nat) (gd list : Value), Slots a s (.complex .f64 (Fp.rung x) one64) (.int .i64 (fst : Int)) (.int .i64 (k : Int)) (.int .i64 (e : Int)) gd list (boxAt w0) ∧ Inv s w0 R k k acc (f + 1) x fst list w ∧ Box w w0.heap.size (.int .i64 0) (.string ⟨#[]⟩) (.int .i64 0) (.complex .f64 (lineW s k) (colW s k)) ∧
      k ≤ e ∧ e < s.size ∧ (∃ h : k < s.size, Lx.lower s[k] = false ∧ Lx.digit s[k] = true) ∧ Lx.span Lx.digit s.data.toList (k + 1) = Lx.span Lx.digit s.data.toList (e + 1)
  | 4, a, w => ∃ (k : Nat) (acc : List Lx.Tk) (f x fst : Nat) (gd list : Value), Slots a s (.complex .f64 (Fp.rung x) one64) (.int .i64 (fst : Int)) (.int .i64 (k : Int)) (.int .i64 (k : Int)) gd list (boxAt w0) ∧ Inv s w0 R k k acc (f + 1) x fst list w ∧ Box w w0.heap.size (.int .i64 0) (.string ⟨#[]⟩) (.int .i64 0) (.complex .f64 (lineW s k) (colW s k)) ∧
      (∃ h : k < s.size, Lx.lower s[k] = false ∧ Lx.digit s[k] = false ∧ Lx.blank s[k] = false ∧ s[k] ≠ 35)
  | 5, a, w => ∃ (k e kd n : Nat) (b : Bool) (acc : List Lx.Tk) (f x fst : Nat) (list : Value), Slots a s (.complex .f64 (Fp.rung x) one64) (.int .i64 (fst : Int)) (.int .i64 (k : Int)) (.int .i64 (e : Int)) (.bool b) list (boxAt w0) ∧ Inv s w0 R k k acc (f + 1) x fst list w ∧ Box w w0.heap.size (.int .i64 (kd : Int)) (.string ⟨#[]⟩) (.int .i64 (n : Int)) (.complex .f64 (lineW s k) (colW s k)) ∧
      (∃ h : k < s.size, Lx.blank s[k] = false ∧ s[k] ≠ 35) ∧ k ≤ e ∧ e ≤ s.size ∧ (b = true → k < e ∧ Lx.one (s.data.toList.drop k) = some (kd, e - k, n)) ∧ (b = false → Lx.one (s.data.toList.drop k) = none)
  | _, _, _ => False

/-- What is told. -/
def Told (s : ByteArray) (w0 : World) (R : Lx.Out) (v p e : Value) (w : World) : Prop :=
  match R with
  | .bad q => v = .slice none 0 0 ∧ p = .complex .f64 (lineW s q) (colW s q) ∧ e = .int .i64 2 ∧ Below w0.heap.size w0 w
  | .good ts => p = .complex .f64 0 0 ∧ e = .int .i64 0 ∧ w.ownsRow w0.heap.size 68 4 v ts.length (cellsOf s ts) ∧ Below w0.heap.size w0 w

structure Ret (s : ByteArray) (w0 : World) (R : Lx.Out) (a : Act) (w : World) : Prop where
  size : a.tmps.size = 143
  df : a.defers = []
  told : Told s w0 R (a.tmps.getD 2 undef) (a.tmps.getD 3 undef) (a.tmps.getD 4 undef) w

/-- What stands behind each label. -/
abbrev After (s : ByteArray) (w0 : World) (R : Lx.Out) (m : Nat) (Q : Exit → Act → World → Prop) : Exit → Act → World → Prop := jumps (fun l' a' w' => J s w0 R l' a' w' ∧ mu' s l' a' w' < m) Q

theorem act_full (a : Act) (hs : a.tmps.size = 143) (hd : a.defers = []) : a = { tmps := #[a.tmps.getD 0 undef, a.tmps.getD 1 undef, a.tmps.getD 2 undef, a.tmps.getD 3 undef, a.tmps.getD 4 undef, a.tmps.getD 5 undef, a.tmps.getD 6 undef, a.tmps.getD 7 undef, a.tmps.getD 8 undef, a.tmps.getD 9 undef, a.tmps.getD 10 undef, a.tmps.getD 11 undef, a.tmps.getD 12 undef, a.tmps.getD 13 undef, a.tmps.getD 14 undef, a.tmps.getD 15 undef, a.tmps.getD 16 undef, a.tmps.getD 17 undef, a.tmps.getD 18 undef, a.tmps.getD 19 undef, a.tmps.getD 20 undef, a.tmps.getD 21 undef, a.tmps.getD 22 undef, a.tmps.getD 23 undef, a.tmps.getD 24 undef, a.tmps.getD 25 undef, a.tmps.getD 26 undef, a.tmps.getD 27 undef, a.tmps.getD 28 undef, a.tmps.getD 29 undef, a.tmps.getD 30 undef, a.tmps.getD 31 undef, a.tmps.getD 32 undef, a.tmps.getD 33 undef, a.tmps.getD 34 undef, a.tmps.getD 35 undef, a.tmps.getD 36 undef, a.tmps.getD 37 undef, a.tmps.getD 38 undef, a.tmps.getD 39 undef, a.tmps.getD 40 undef, a.tmps.getD 41 undef, a.tmps.getD 42 undef, a.tmps.getD 43 undef, a.tmps.getD 44 undef, a.tmps.getD 45 undef, a.tmps.getD 46 undef, a.tmps.getD 47 undef, a.tmps.getD 48 undef, a.tmps.getD 49 undef, a.tmps.getD 50 undef, a.tmps.getD 51 undef, a.tmps.getD 52 undef, a.tmps.getD 53 undef, a.tmps.getD 54 undef, a.tmps.getD 55 undef, a.tmps.getD 56 undef, a.tmps.getD 57 undef, a.tmps.getD 58 undef, a.tmps.getD 59 undef, a.tmps.getD 60 undef, a.tmps.getD 61 undef, a.tmps.getD 62 undef, a.tmps.getD 63 undef, a.tmps.getD 64 undef, a.tmps.getD 65 undef, a.tmps.getD 66 undef, a.tmps.getD 67 undef, a.tmps.getD 68 undef, a.tmps.getD 69 undef, a.tmps.getD 70 undef, a.tmps.getD 71 undef, a.tmps.getD 72 undef, a.tmps.getD 73 undef, a.tmps.getD 74 undef, a.tmps.getD 75 undef, a.tmps.getD 76 undef, a.tmps.getD 77 undef, a.tmps.getD 78 undef, a.tmps.getD 79 undef, a.tmps.getD 80 undef, a.tmps.getD 81 undef, a.tmps.getD 82 undef, a.tmps.getD 83 undef, a.tmps.getD 84 undef, a.tmps.getD 85 undef, a.tmps.getD 86 undef, a.tmps.getD 87 undef, a.tmps.getD 88 undef, a.tmps.getD 89 undef, a.tmps.getD 90 undef, a.tmps.getD 91 undef, a.tmps.getD 92 undef, a.tmps.getD 93 undef, a.tmps.getD 94 undef, a.tmps.getD 95 undef, a.tmps.getD 96 undef, a.tmps.getD 97 undef, a.tmps.getD 98 undef, a.tmps.getD 99 undef, a.tmps.getD 100 undef, a.tmps.getD 101 undef, a.tmps.getD 102 undef, a.tmps.getD 103 undef, a.tmps.getD 104 undef, a.tmps.getD 105 undef, a.tmps.getD 106 undef, a.tmps.getD 107 undef, a.tmps.getD 108 undef, a.tmps.getD 109 undef, a.tmps.getD 110 undef, a.tmps.getD 111 undef, a.tmps.getD 112 undef, a.tmps.getD 113 undef, a.tmps.getD 114 undef, a.tmps.getD 115 undef, a.tmps.getD 116 undef, a.tmps.getD 117 undef, a.tmps.getD 118 undef, a.tmps.getD 119 undef, a.tmps.getD 120 undef, a.tmps.getD 121 undef, a.tmps.getD 122 undef, a.tmps.getD 123 undef, a.tmps.getD 124 undef, a.tmps.getD 125 undef, a.tmps.getD 126 undef, a.tmps.getD 127 undef, a.tmps.getD 128 undef, a.tmps.getD 129 undef, a.tmps.getD 130 undef, a.tmps.getD 131 undef, a.tmps.getD 132 undef, a.tmps.getD 133 undef, a.tmps.getD 134 undef, a.tmps.getD 135 undef, a.tmps.getD 136 undef, a.tmps.getD 137 undef, a.tmps.getD 138 undef, a.tmps.getD 139 undef, a.tmps.getD 140 undef, a.tmps.getD 141 undef, a.tmps.getD 142 undef], defers := [] } := by
  obtain ⟨t, d⟩ := a
  simp only at hs hd
  subst hd
  congr 1
  apply Array.ext'
  have e : t.toList = (List.range 143).map (fun i => t.getD i undef) := by
    apply List.ext_getElem
    · simp [hs]
    · intro i h1 h2
      have h3 : i < t.size := by simpa using h1
      simp [Array.getD, h3]
  rw [e]
  rfl

theorem wp_of_full {P : Program} {c : Code} {Q : Exit → Act → World → Prop} {a b : Act} {w : World} (e : a = b) (h : c.wp P Q b w) : c.wp P Q a w := by subst e; exact h

/-- The place of byte k, by the line's beginning. -/
theorem place_sum (s : ByteArray) (k x fst : Nat) (hs : s.size ≤ 6000) (hk : k ≤ s.size) (hf : fst ≤ k) (hp : Sp.spot (s.data.toList.take k) = (x, k - fst + 1)) (w : World) :
    (binOp .add 28 (.complex .f64 (Fp.rung x) one64) (.complex .f64 0 (floatOfInt .f64 ((k : Int) - (fst : Int))))).run Tryz.prog w = .ok (.complex .f64 (lineW s k) (colW s k)) w := by
  have hb := Sp.spot_le (s.data.toList.take k)
  have hl : (s.data.toList.take k).length ≤ k := List.length_take_le _ _
  rw [hp] at hb
  simp only at hb
  have e1 : floatBits .add .f64 (Fp.rung x) 0 = some (Fp.rung x) := by rw [zero_rung]; exact Fp.add_rep (Fp.rep_rung x (by omega)) (Fp.rep_rung 0 (by decide)) (by omega)
  have e2 : floatBits .add .f64 one64 (floatOfInt .f64 ((k : Int) - (fst : Int))) = some (Fp.rung (k - fst + 1)) := by
    rw [rung_of_int _ (by omega) (by omega), show ((k : Int) - (fst : Int)).toNat = k - fst by omega, Nat.add_comm]
    show floatBits .add .f64 4607182418800017408 _ = _
    rw [one_rung]
    exact Fp.add_rep (Fp.rep_rung 1 (by decide)) (Fp.rep_rung _ (by omega)) (by omega)
  unfold lineW colW
  rw [hp]
  exact run_complex_sum w .add (Or.inl rfl) 28 .f64 _ _ _ _ _ _ (by simp only [cSumBits, e1, e2]; rfl)

/-- The next line's beginning. -/
theorem line_sum (x : Nat) (hx : x ≤ 10000) (w : World) :
    (binOp .add 28 (.complex .f64 (Fp.rung x) one64) (.complex .f64 4607182418800017408 0)).run Tryz.prog w = .ok (.complex .f64 (Fp.rung (x + 1)) one64) w := by
  have e1 : floatBits .add .f64 (Fp.rung x) 4607182418800017408 = some (Fp.rung (x + 1)) := by rw [one_rung]; exact Fp.add_rep (Fp.rep_rung x (by omega)) (Fp.rep_rung 1 (by decide)) (by omega)
  have e2 : floatBits .add .f64 one64 0 = some one64 := by
    show floatBits .add .f64 4607182418800017408 0 = some 4607182418800017408
    rw [one_rung, zero_rung]
    exact Fp.add_rep (Fp.rep_rung 1 (by decide)) (Fp.rep_rung 0 (by decide)) (by omega)
  exact run_complex_sum w .add (Or.inl rfl) 28 .f64 _ _ _ _ _ _ (by simp only [cSumBits, e1, e2]; rfl)

theorem byte_at (s : ByteArray) (k : Nat) (h : k < s.size) : s.data.toList[k]'(by simpa using h) = s[k] := by rw [Array.getElem_toList]; rfl

theorem ne_byte {c : UInt8} {n : Nat} (hn : n < 256) (h : c ≠ UInt8.ofNat n) : ((c.toNat : Int) == (n : Int)) = false := by
  rw [beq_eq_false_iff_ne]; intro e; apply h; apply UInt8.toNat_inj.1; rw [UInt8.toNat_ofNat', Nat.mod_eq_of_lt hn]; omega

end Go.Proofs.YtkobdephobaopaaGreatDoor
