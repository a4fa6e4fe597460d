/- The statements' maker of statements: what holds at each round. -/
import Derived.Test.YtoaaikbplnpmmaaHs
import Derived.Test.YtoaaikbplnpmmaaNm
namespace Go.Proofs.Ytoaaikbplnpmmaa
open Go.RowKit

/-- Each statement, those within too, has a kind from 1 on, and an expression of at most seven parts. -/
def OKs (l : List St) : Prop := ∀ x ∈ St.flats l, 1 ≤ x.kind ∧ x.e.size ≤ 7
theorem OKs.nil : OKs [] := fun x h => by simp [St.flats] at h
theorem OKs.append {l m : List St} (h : OKs l) (k : OKs m) : OKs (l ++ m) := fun x hx => by
  rw [St.flats_append, List.mem_append] at hx
  exact hx.elim (h x) (k x)
theorem OKs.one {s : St} (h1 : 1 ≤ s.kind) (h2 : s.e.size ≤ 7) (hb : OKs s.body) (hl : OKs s.els) : OKs [s] := fun x hx => by
  simp only [St.flats, List.append_nil, St.flat_eq, List.mem_cons, List.mem_append] at hx
  rcases hx with rfl | hx | hx
  · exact ⟨h1, h2⟩
  · exact hb x hx
  · exact hl x hx
theorem OKs.left {l m : List St} (h : OKs (l ++ m)) : OKs l := fun x hx => h x (by rw [St.flats_append]; exact List.mem_append_left _ hx)
theorem OKs.wts_of (l : List St) (H : ∀ x ∈ l, OKs [x] → x.wt ≤ 8 * x.size) (h : OKs l) : St.wts l ≤ 8 * St.sizes l := by
  induction l with
  | nil => simp [St.wts]
  | cons a l ih =>
    have h1 := H a (List.mem_cons_self ..) fun x hx => h x (by simp only [St.flats, List.append_nil] at hx ⊢; exact List.mem_append_left _ hx)
    have h2 := ih (fun x hx => H x (List.mem_cons_of_mem _ hx)) fun x hx => h x (by simp only [St.flats]; exact List.mem_append_right _ hx)
    simp only [St.wts, St.sizes]; omega
theorem OKs.wt (s : St) : OKs [s] → s.wt ≤ 8 * s.size := by
  refine St.ind (P := fun s => OKs [s] → s.wt ≤ 8 * s.size) (fun s hb hl h => ?_) s
  have e : St.flats [s] = s :: (St.flats s.body ++ St.flats s.els) := by simp [St.flats, St.flat_eq]
  have h1 := OKs.wts_of s.body hb fun x hx => h x (by rw [e]; exact List.mem_cons_of_mem _ (List.mem_append_left _ hx))
  have h2 := OKs.wts_of s.els hl fun x hx => h x (by rw [e]; exact List.mem_cons_of_mem _ (List.mem_append_right _ hx))
  have h3 := (h s (by rw [e]; exact List.mem_cons_self ..)).2
  rw [St.wt_eq, St.size_eq]; omega
theorem OKs.wts {l : List St} (h : OKs l) : St.wts l ≤ 8 * St.sizes l := OKs.wts_of l (fun x _ => OKs.wt x) h

def sliceLen : Value → Nat | .slice _ n _ => n | _ => 0

/-- What stmts leaves: some statements, and the rest of the acts. -/
def MadeS (w : World) (hi n : Nat) (most : Int) (r : Ending) (w' : World) : Prop :=
  ∃ (ss : List St) (a1 : Option Addr) (n1 q1 : Nat) (rest : List Ac) (a2 : Option Addr) (n2 q2 : Nat), r = .returned (.tuple #[.slice a1 n1 q1, .slice a2 n2 q2]) ∧
    Hid (StsIn w' w.heap.size w'.heap.size ss (.slice a1 n1 q1) ∧ ActsR w' hi rest (.slice a2 n2 q2) ∧ St.sizes ss + rest.length ≤ n ∧ OKs ss ∧ (ss.length : Int) ≤ max 0 most ∧ Kept w w')

/-- Where stmts stands before a round. -/
structure SmI (w wr : World) (hi n : Nat) (most : Int) (ls : List Ac) (lv : Value) (ps : List Item) (out : Value) : Prop where
  acts : ActsR wr hi ls lv
  own : OwnK wr w.heap.size (Far w.heap.size wr out) ps out
  kept : Kept w wr
  size : St.sizes (ps.map (·.s)) + ls.length ≤ n
  ok : OKs (ps.map (·.s))
  most : (ps.length : Int) ≤ max 0 most

theorem ActsR.below {w w' : World} {hi : Nat} {l : List Ac} {v : Value} (h : ActsR w hi l v) (k : Below hi w w') : ActsR w' hi l v := by
  obtain ⟨a, cap, e, e1, e2, e3, e4⟩ := h.out
  refine ⟨a, cap, e, e1, e2, fun i hi' => ?_, e4⟩
  obtain ⟨b, o, a1, n1, q1, f1, f2, f3, f4, f5, f6, f7, f8⟩ := e3 i hi'
  refine ⟨b, o, a1, n1, q1, f1, f2, (k.cell f2).trans f3, (k.cell f2).trans f4, (k.cell f2).trans f5, (k.cell f2).trans f6, (k.cell f2).trans f7, ?_⟩
  obtain ⟨a', cap', g, g1, g2, g3, g4⟩ := f8.out
  refine ⟨a', cap', g, g1, g2, fun j hj => ?_, g4⟩
  obtain ⟨b', o', x1, x2, x3⟩ := g3 j hj
  exact ⟨b', o', x1, x2, (k.cell (by exact x2)).trans x3⟩
theorem ActsR.len {w : World} {hi : Nat} {l : List Ac} {a : Option Addr} {n q : Nat} (h : ActsR w hi l (.slice a n q)) : l.length = n := by
  obtain ⟨a, cap, e, _⟩ := h.out
  cases e; rfl

/-- A statement's box: its eleven cells, that may be written. -/
structure BoxS (w : World) (B : Nat) (cs : List Value) : Prop where
  rng : w.rangeAt B 0 cs
  fz : ∀ j, w.frozen? ⟨B, j, none⟩ = false
  lt : B < w.heap.size
theorem BoxS.kept {w w' : World} {B : Nat} {cs : List Value} (h : BoxS w B cs) (k : Kept w w') : BoxS w' B cs :=
  ⟨fun j v hv => k.cellS (h.rng j v hv), fun j => (k.frozen h.lt).trans (h.fz j), Nat.lt_of_lt_of_le h.lt k.size⟩
theorem BoxS.set {w : World} {B : Nat} {cs : List Value} (h : BoxS w B cs) (j : Nat) (vs : List Value) (hj : j + vs.length ≤ cs.length) : BoxS (w.setCells B j vs) B (cs.take j ++ vs ++ cs.drop (j + vs.length)) := by
  refine ⟨fun i v hv => ?_, fun j => by rw [World.frozen?_setCells]; exact h.fz j, by rw [size_setCells]; exact h.lt⟩
  have ht : ∀ i, i < vs.length → (w.cell? ⟨B, j + i, none⟩).isSome = true := fun i hi => by
    have := h.rng (j + i) _ (List.getElem?_eq_getElem (by omega))
    rw [Nat.zero_add] at this; rw [this]; rfl
  rw [Nat.zero_add]
  by_cases h1 : i < j
  · rw [World.cell?_setCells_out B vs j w ⟨B, i, none⟩ (fun _ _ => .inl h1)]
    have := h.rng i v (by
      rw [List.append_assoc, List.getElem?_append_left (by rw [List.length_take]; omega), List.getElem?_take, if_pos h1] at hv
      exact hv)
    rwa [Nat.zero_add] at this
  · by_cases h2 : i < j + vs.length
    · have hlt : (cs.take j).length = j := by rw [List.length_take]; omega
      have he := World.cell?_setCells_in B vs j w ht (i - j) (by omega)
      rw [show j + (i - j) = i by omega] at he
      rw [he, ← hv, List.append_assoc, List.getElem?_append_right (by omega), hlt, List.getElem?_append_left (by omega), List.getElem?_eq_getElem (by omega)]
    · rw [World.cell?_setCells_out B vs j w ⟨B, i, none⟩ (fun _ _ => .inr (by show j + vs.length ≤ i; omega))]
      have hlt : (cs.take j).length = j := by rw [List.length_take]; omega
      have := h.rng i v (by
        rw [List.getElem?_append_right (by rw [List.length_append]; omega), List.length_append, hlt, List.getElem?_drop] at hv
        rw [show j + vs.length + (i - (j + vs.length)) = i by omega] at hv
        exact hv)
      rwa [Nat.zero_add] at this

/-- Behind the append of what was made. -/
theorem SmI.next {w wr W w4 : World} {hi n : Nat} {most : Int} {ls rest : List Ac} {lv rv : Value} {ps : List Item} {out out' : Value} {p : Item} (h : SmI w wr hi n most ls lv ps out) (k : Kept wr W) (hp : p.InD W (Rng wr.heap.size W.heap.size))
    (hG : Grew W w.heap.size 29 11 out ps.length (cellsOf ps) 1 p.cells out' w4) (hr : ActsR W hi rest rv) (hhi : hi ≤ w.heap.size) (hs : St.size p.s + rest.length ≤ ls.length) (ho : OKs [p.s]) (hm : (ps.length : Int) < most) :
    SmI w w4 hi n most rest rv (ps ++ [p]) out' := by
  obtain ⟨h1, h2⟩ := ab_one h.own k hp hG
  have hb : Below w.heap.size wr w4 := h2.below h.own.le h.own.base_le
  have hbW : Below w.heap.size W w4 := hG.grow.below (Nat.le_trans h.own.le k.size) h.own.base_le
  refine ⟨?_, h1, Below.trans h.kept hb, ?_, ?_, ?_⟩
  · obtain ⟨a, cap, e, e1, e2, e3, e4⟩ := hr.out
    refine ⟨a, cap, e, e1, e2, fun i hi' => ?_, e4⟩
    obtain ⟨b, o, a1, n1, q1, f1, f2, f3, f4, f5, f6, f7, f8⟩ := e3 i hi'
    have hbl : b < w.heap.size := by omega
    refine ⟨b, o, a1, n1, q1, f1, f2, (hbW.cell hbl).trans f3, (hbW.cell hbl).trans f4, (hbW.cell hbl).trans f5, (hbW.cell hbl).trans f6, (hbW.cell hbl).trans f7, ?_⟩
    obtain ⟨a', cap', g, g1, g2, g3, g4⟩ := f8.out
    refine ⟨a', cap', g, g1, g2, fun j hj => ?_, g4⟩
    obtain ⟨b', o', x1, x2, x3⟩ := g3 j hj
    exact ⟨b', o', x1, x2, (hbW.cell (by show b' < _; omega)).trans x3⟩
  · have := h.size
    rw [List.map_append, St.sizes_append]
    simp only [List.map_cons, List.map_nil, St.sizes]; omega
  · rw [List.map_append]; exact h.ok.append ho
  · rw [List.length_append, List.length_singleton]; omega

theorem SmI.done {w wr : World} {hi n : Nat} {most : Int} {ls : List Ac} {a1 a2 : Option Addr} {n1 q1 n2 q2 : Nat} {ps : List Item} (h : SmI w wr hi n most ls (.slice a2 n2 q2) ps (.slice a1 n1 q1)) : MadeS w hi n most (.returned (.tuple #[.slice a1 n1 q1, .slice a2 n2 q2])) wr :=
  ⟨ps.map (·.s), a1, n1, q1, ls, a2, n2, q2, rfl, h.own.sts (fun k hk => ⟨hk.1, hk.2.1⟩) (fun k hk => h.own.row.lt k hk), h.acts, h.size, h.ok, by rw [List.length_map]; exact h.most, h.kept⟩
theorem SmI.rel {w w4 : World} {hi n m k : Nat} {most : Int} {rest : List Ac} {ar ad : Option Addr} {qr cp : Nat} {ps : List Item} {p : Item} (h : SmI w w4 hi n most rest (.slice ar m qr) (ps ++ [p]) (.slice ad k cp)) (h1 : rest.length = m) (h2 : k = ps.length + 1) :
    ∃ (ls : List Ac) (a1 : Option Addr) (q1 : Nat) (ps' : List Item) (a2 : Option Addr) (q2 : Nat), Value.slice ar m qr = .slice a1 ls.length q1 ∧ Value.slice ad k cp = .slice a2 ps'.length q2 ∧ Hid (SmI w w4 hi n most ls (.slice a1 ls.length q1) ps' (.slice a2 ps'.length q2)) := by
  subst h1 h2
  have : (ps ++ [p]).length = ps.length + 1 := by simp
  refine ⟨rest, ar, qr, ps ++ [p], ad, cp, rfl, by rw [this], ?_⟩
  rw [this]; exact h
#print axioms SmI.next
end Go.Proofs.Ytoaaikbplnpmmaa
