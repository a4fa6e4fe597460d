/- The statements' maker of statements: what holds at each round. -/
import Derived.Test.YteaopephdjoegaaGreatDoorHs
import Derived.Test.YteaopephdjoegaaGreatDoorBs
namespace Go.Proofs.YteaopephdjoegaaGreatDoor
open Go.RowKit

/-- How deep blocks may still be within one another. -/
def Ed (deep : Int) : Nat := (3 - deep).toNat
theorem Ed_succ {deep : Int} (h : deep < 3) : Ed deep = Ed (deep + 1) + 1 := by unfold Ed; omega
/-- Statements that may be shown. -/
def OKs (e : Nat) (l : List St) : Prop := ∀ s ∈ l, Ps.Gd e s
theorem OKs.nil (e : Nat) : OKs e [] := fun _ h => by cases h
theorem OKs.append {e : Nat} {l m : List St} (h : OKs e l) (k : OKs e m) : OKs e (l ++ m) := fun x hx => (List.mem_append.1 hx).elim (h x) (k x)
theorem OKs.one {e : Nat} {s : St} (h : Ps.Gd e s) : OKs e [s] := fun x hx => by
  obtain rfl : x = s := by simpa using hx
  exact h
/-- A name. -/
def Nam (s : ByteArray) : Prop := ∃ t, Px.isNm t = true ∧ s = Px.ba t
theorem Nam.two {s a b : ByteArray} (h : s = a ∨ s = b) (ha : Nam a) (hb : Nam b) : Nam s := by rcases h with rfl | rfl <;> assumption
theorem OKs.assign {e : Nat} {s : ByteArray} {x : Ex} (h : Nam s) (hx : x.size ≤ 7 ∧ Px.Sx x) : OKs e [.mk 1 s ⟨#[]⟩ 0 x [] [] 0 0] := by
  obtain ⟨t, ht, rfl⟩ := h
  exact OKs.one (.assign e t x 0 0 ht (hx.2.ge hx.1))
theorem OKs.word {e : Nat} {k : Int} {s : ByteArray} (hk : k = 2 ∨ k = 3 ∨ k = 9 ∨ k = 10) (h : Nam s) : OKs e [.mk k s ⟨#[]⟩ 0 (.mk 0 0 ⟨#[]⟩ []) [] [] 0 0] := by
  obtain ⟨t, ht, rfl⟩ := h
  exact OKs.one (.word e k t 0 0 hk ht)
theorem OKs.send {e : Nat} {s : ByteArray} {x : Ex} (h : Nam s) (hx : x.size ≤ 7 ∧ Px.Sx x) : OKs e [.mk 4 s ⟨#[]⟩ 0 x [] [] 0 0] := by
  obtain ⟨t, ht, rfl⟩ := h
  exact OKs.one (.send e t x 0 0 ht (hx.2.ge hx.1))
theorem OKs.recv {e : Nat} {s u : ByteArray} (h : Nam s) (h2 : Nam u) : OKs e [.mk 5 s u 0 (.mk 0 0 ⟨#[]⟩ []) [] [] 0 0] := by
  obtain ⟨t, ht, rfl⟩ := h
  obtain ⟨t2, ht2, rfl⟩ := h2
  exact OKs.one (.recv e t t2 0 0 ht ht2)
theorem OKs.print {e : Nat} {x : Ex} (hx : x.size ≤ 7 ∧ Px.Sx x) : OKs e [.mk 6 ⟨#[]⟩ ⟨#[]⟩ 0 x [] [] 0 0] := OKs.one (.print e x 0 0 (hx.2.ge hx.1))
theorem OKs.cond {deep : Int} (hd : deep < 3) {x : Ex} (hx : x.size ≤ 7 ∧ Px.Sx x) {b c : List St} (hb : OKs (Ed (deep + 1)) b) (hc : OKs (Ed (deep + 1)) c) : OKs (Ed deep) [.mk 7 ⟨#[]⟩ ⟨#[]⟩ 0 x b c 0 0] := by
  rw [Ed_succ hd]
  exact OKs.one (.cond _ x b c 0 0 (hx.2.ge hx.1) hb hc)
theorem OKs.rep {deep : Int} (hd : deep < 3) {n : Nat} (hn : n ≤ 9) {b : List St} (hb : OKs (Ed (deep + 1)) b) : OKs (Ed deep) [.mk 8 ⟨#[]⟩ ⟨#[]⟩ (n : Int) (.mk 0 0 ⟨#[]⟩ []) b [] 0 0] := by
  rw [Ed_succ hd]
  exact OKs.one (.rep _ n b 0 0 hn hb)
theorem nam1 (c : UInt8) (h : Px.isNm [c] = true) : Nam ⟨#[c]⟩ := ⟨[c], h, rfl⟩

def sliceLen : Value → Nat | .slice _ n _ => n | _ => 0

/-- What stmts leaves: some statements, and the rest of the acts. -/
def MadeS (w : World) (hi n : Nat) (most : Int) (ed : Nat) (r : Ending) (w' : World) : Prop :=
  ∃ (ss : List St) (a1 : Option Addr) (n1 q1 : Nat) (rest : List Ac) (a2 : Option Addr) (n2 q2 : Nat), r = .returned (.tuple #[.slice a1 n1 q1, .slice a2 n2 q2]) ∧
    Hid (StsIn w' w.heap.size w'.heap.size ss (.slice a1 n1 q1) ∧ ActsR w' hi rest (.slice a2 n2 q2) ∧ St.sizes ss + rest.length ≤ n ∧ OKs ed ss ∧ (ss.length : Int) ≤ max 0 most ∧ Kept w w')

/-- Where stmts stands before a round. -/
structure SmI (w wr : World) (hi n : Nat) (most : Int) (ed : Nat) (ls : List Ac) (lv : Value) (ps : List Item) (out : Value) : Prop where
  acts : ActsR wr hi ls lv
  own : OwnK wr w.heap.size (Far w.heap.size wr out) ps out
  kept : Kept w wr
  size : St.sizes (ps.map (·.s)) + ls.length ≤ n
  ok : OKs ed (ps.map (·.s))
  most : (ps.length : Int) ≤ max 0 most

theorem ActsR.below {w w' : World} {hi : Nat} {l : List Ac} {v : Value} (h : ActsR w hi l v) (k : Below hi w w') : ActsR w' hi l v := by
  obtain ⟨a, cap, e, e1, e2, e3, e4⟩ := h.out
  refine ⟨a, cap, e, e1, e2, fun i hi' => ?_, e4⟩
  obtain ⟨b, o, a1, n1, q1, f1, f2, f3, f4, f5, f6, f7, f8⟩ := e3 i hi'
  refine ⟨b, o, a1, n1, q1, f1, f2, (k.cell f2).trans f3, (k.cell f2).trans f4, (k.cell f2).trans f5, (k.cell f2).trans f6, (k.cell f2).trans f7, ?_⟩
  obtain ⟨a', cap', g, g1, g2, g3, g4⟩ := f8.out
  refine ⟨a', cap', g, g1, g2, fun j hj => ?_, g4⟩
  obtain ⟨b', o', x1, x2, x3⟩ := g3 j hj
  exact ⟨b', o', x1, x2, (k.cell (by exact x2)).trans x3⟩
theorem ActsR.len {w : World} {hi : Nat} {l : List Ac} {a : Option Addr} {n q : Nat} (h : ActsR w hi l (.slice a n q)) : l.length = n := by
  obtain ⟨a, cap, e, _⟩ := h.out
  cases e; rfl

/-- Behind the append of what was made. -/
theorem SmI.next {w wr W w4 : World} {hi n : Nat} {most : Int} {ed : Nat} {ls rest : List Ac} {lv rv : Value} {ps : List Item} {out out' : Value} {p : Item} (h : SmI w wr hi n most ed ls lv ps out) (k : Kept wr W) (hp : p.InD W (Rng wr.heap.size W.heap.size))
    (hG : Grew W w.heap.size 81 11 out ps.length (itCells ps) 1 p.cells out' w4) (hr : ActsR W hi rest rv) (hhi : hi ≤ w.heap.size) (hs : St.size p.s + rest.length ≤ ls.length) (ho : OKs ed [p.s]) (hm : (ps.length : Int) < most) :
    SmI w w4 hi n most ed rest rv (ps ++ [p]) out' := by
  obtain ⟨h1, h2⟩ := ab_one h.own k hp hG
  have hb : Below w.heap.size wr w4 := h2.below h.own.le h.own.base_le
  have hbW : Below w.heap.size W w4 := hG.grow.below (Nat.le_trans h.own.le k.size) h.own.base_le
  refine ⟨?_, h1, Below.trans h.kept hb, ?_, ?_, ?_⟩
  · obtain ⟨a, cap, e, e1, e2, e3, e4⟩ := hr.out
    refine ⟨a, cap, e, e1, e2, fun i hi' => ?_, e4⟩
    obtain ⟨b, o, a1, n1, q1, f1, f2, f3, f4, f5, f6, f7, f8⟩ := e3 i hi'
    have hbl : b < w.heap.size := by omega
    refine ⟨b, o, a1, n1, q1, f1, f2, (hbW.cell hbl).trans f3, (hbW.cell hbl).trans f4, (hbW.cell hbl).trans f5, (hbW.cell hbl).trans f6, (hbW.cell hbl).trans f7, ?_⟩
    obtain ⟨a', cap', g, g1, g2, g3, g4⟩ := f8.out
    refine ⟨a', cap', g, g1, g2, fun j hj => ?_, g4⟩
    obtain ⟨b', o', x1, x2, x3⟩ := g3 j hj
    exact ⟨b', o', x1, x2, (hbW.cell (by show b' < _; omega)).trans x3⟩
  · have := h.size
    rw [List.map_append, St.sizes_append]
    simp only [List.map_cons, List.map_nil, St.sizes]; omega
  · rw [List.map_append]; exact h.ok.append ho
  · rw [List.length_append, List.length_singleton]; omega

theorem SmI.done {w wr : World} {hi n : Nat} {most : Int} {ed : Nat} {ls : List Ac} {a1 a2 : Option Addr} {n1 q1 n2 q2 : Nat} {ps : List Item} (h : SmI w wr hi n most ed ls (.slice a2 n2 q2) ps (.slice a1 n1 q1)) : MadeS w hi n most ed (.returned (.tuple #[.slice a1 n1 q1, .slice a2 n2 q2])) wr :=
  ⟨ps.map (·.s), a1, n1, q1, ls, a2, n2, q2, rfl, h.own.sts (fun k hk => ⟨hk.1, hk.2.1⟩) (fun k hk => h.own.row.lt k hk), h.acts, h.size, h.ok, by rw [List.length_map]; exact h.most, h.kept⟩
theorem SmI.rel {w w4 : World} {hi n m k : Nat} {most : Int} {ed : Nat} {rest : List Ac} {ar ad : Option Addr} {qr cp : Nat} {ps : List Item} {p : Item} (h : SmI w w4 hi n most ed rest (.slice ar m qr) (ps ++ [p]) (.slice ad k cp)) (h1 : rest.length = m) (h2 : k = ps.length + 1) :
    ∃ (ls : List Ac) (a1 : Option Addr) (q1 : Nat) (ps' : List Item) (a2 : Option Addr) (q2 : Nat), Value.slice ar m qr = .slice a1 ls.length q1 ∧ Value.slice ad k cp = .slice a2 ps'.length q2 ∧ Hid (SmI w w4 hi n most ed ls (.slice a1 ls.length q1) ps' (.slice a2 ps'.length q2)) := by
  subst h1 h2
  have : (ps ++ [p]).length = ps.length + 1 := by simp
  refine ⟨rest, ar, qr, ps ++ [p], ad, cp, rfl, by rw [this], ?_⟩
  rw [this]; exact h
#print axioms SmI.next
end Go.Proofs.YteaopephdjoegaaGreatDoor
