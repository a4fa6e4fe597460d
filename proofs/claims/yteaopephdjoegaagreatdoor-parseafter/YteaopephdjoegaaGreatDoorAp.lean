/- Rows of items of several cells: append, copy, make; a row that is written over, item by item. -/
import Derived.Test.YteaopephdjoegaaGreatDoorTr
import Derived.Laws.OwnMore
import Derived.Laws.CopyRow
import Derived.Laws.CopyOwn
import Derived.Maps.AppendAt
import Derived.Tactics
namespace Go.Proofs.YteaopephdjoegaaGreatDoor
open Go.RowKit

/-- t is a slice's type, e its items': their zero value, cells, bytes. -/
structure ElemOf (P : Program) (t e : TypeId) (z : Value) (size bytes : Nat) : Prop where
  under : P.underlying t = some (.slice e)
  info : (P.info? e).map (fun i => (i.zero, i.size, i.bytes)) = some (some z, size, bytes)
  zs : z.cells.size = size
  pos : 0 < size

theorem ElemOf.get {P : Program} {t e : TypeId} {z : Value} {size bytes : Nat} (h : ElemOf P t e z size bytes) : ∃ i, P.info? e = some i ∧ i.zero = some z ∧ i.size = size ∧ i.bytes = bytes := by
  have h := h.info
  cases hi : P.info? e with
  | none => rw [hi] at h; cases h
  | some i =>
    rw [hi] at h
    simp only [Option.map_some, Option.some.injEq, Prod.mk.injEq] at h
    exact ⟨i, rfl, h.1, h.2.1, h.2.2⟩

/-- Behind an append: the row is longer, and lies where it lay, or in a block that was just made. -/
structure Grew (w : World) (base e size : Nat) (v : Value) (n : Nat) (xs : List Value) (m : Nat) (news : List Value) (v' : Value) (w' : World) : Prop where
  own : w'.ownsRow base e size v' (n + m) (xs ++ news)
  grown : w.grownBy w' v.ownBlock
  lies : v'.ownBlock = v.ownBlock ∨ v'.ownBlock = some w.heap.size

theorem own_slice {w : World} {base e size : Nat} {v : Value} {n : Nat} {xs : List Value} (h : w.ownsRow base e size v n xs) : ∃ a cap, v = .slice a n cap ∧ Slc a n cap := by
  rcases h.2 with ⟨rfl, rfl⟩ | ⟨g, cap, cur, rfl, _, _, h1, h2, _⟩
  · exact ⟨_, _, rfl, Nat.le_refl _, Nat.zero_le _, fun _ => rfl⟩
  · exact ⟨_, _, rfl, h1, h2, fun h => by cases h⟩

theorem run_append_rows {P : Program} {t e : TypeId} {z : Value} {size bytes : Nat} (E : ElemOf P t e z size bytes) (ty : TypeId) {w : World} {base : Nat} {v : Value} {n : Nat} {xs : List Value} (hown : w.ownsRow base e size v n xs)
    {base' : Nat} {vs : Value} {m : Nat} {news : List Value} (hsrc : w.ownsRow base' e size vs m news) (h1 : ∀ u ∈ news, u.oneCell' = true) (hb : (n + m) * bytes ≤ 140737488355328) (h63 : n + m ≤ maxLen) (hbase : base ≤ w.heap.size) :
    ∃ v' w', (Builtin.append_ #[t, t] ty #[v, vs]).run P w = .ok v' w' ∧ Grew w base e size v n xs m news v' w' := by
  obtain ⟨i, hi, hz, hs, hby⟩ := E.get
  rcases hsrc.2 with ⟨rfl, rfl⟩ | ⟨g, cap, cur, rfl, _, hg, hnc, hcm, hcs, htake⟩
  · have hx : news = [] := List.eq_nil_of_length_eq_zero (by simpa using hsrc.1)
    subst hx
    exact ⟨v, w, run_append_owned_none (P := P) w base t ty e i size E.under hi v n xs hown, by simpa using hown, ⟨rfl, rfl, rfl, Nat.le_refl _, fun _ _ _ => rfl⟩, .inl rfl⟩
  · obtain ⟨v', w', hr, h2, h3, _, h5⟩ := run_append_own_at (P := P) w base t ty e i z size bytes E.under hi hz hs hby E.zs E.pos v n xs hown ⟨g, 0, none⟩ m cap news hsrc.1 (hsrc.cells rfl) h1 h63 hb hbase
    exact ⟨v', w', hr, h2, h3, h5⟩

theorem wpList_append_rows {P : Program} {w : World} {ops : Array Oper} {rest : List Oper} {o : Oper} {a : Act} {Q : Exit → Act → World → Prop} (hgd : o.guard = none) (s x : Operand) (t : TypeId)
    (ho : o.op = .call { callee := .builtin .append, args := #[s, x], argTypes := #[t, t] })
    {e : TypeId} {z : Value} {size bytes : Nat} (E : ElemOf P t e z size bytes) {base : Nat} {v : Value} {n : Nat} {xs : List Value} (hs : a.eval s = v) (hown : w.ownsRow base e size v n xs)
    {base' : Nat} {vs : Value} {m : Nat} {news : List Value} (hx : a.eval x = vs) (hsrc : w.ownsRow base' e size vs m news) (h1 : ∀ u ∈ news, u.oneCell' = true) (hb : (n + m) * bytes ≤ 140737488355328) (h63 : n + m ≤ maxLen) (hbase : base ≤ w.heap.size)
    (h : ∀ ad cap w', Hid (Grew w base e size v n xs m news (.slice ad (n + m) cap) w') → wpList P ops Q rest (a.put o.dst (.slice ad (n + m) cap)) w') : wpList P ops Q (o :: rest) a w := by
  refine wpList_plain hgd fun K hK => ?_
  obtain ⟨v', w', hr, hG⟩ := run_append_rows E o.type hown hsrc h1 hb h63 hbase
  obtain ⟨ad, cap, rfl, _⟩ := own_slice hG.own
  unfold Oper.wp execOp
  simp only [ho, resolve, invoke, builtin, Sem.run_bind, Sem.run_pure, Result.andThen_ok, List.map_toArray, List.map_cons, List.map_nil, hs, hx, hr]
  exact hK _ _ (h ad cap w' hG)

/-- The row that a literal of one item lays. -/
theorem own_lit {w : World} (base e size : Nat) (cs : Array Value) (hs : cs.size = size) (hb : base ≤ w.heap.size) : (w.alloc (.cells cs e)).ownsRow base e size (.slice (some ⟨w.heap.size, 0, none⟩) 1 1) 1 cs.toList :=
  World.ownsRow_lit w cs 1 hb (by unfold maxLen; omega) (by simpa using hs)

theorem Grew.below {w w0 : World} {base e size : Nat} {v : Value} {n : Nat} {xs : List Value} {m : Nat} {news : List Value} {v' : Value} {w' : World} (h : Grew w base e size v n xs m news v' w') (hown : w.ownsRow base e size v n xs) {B : Nat} (hB : B ≤ base) (hbase : base ≤ w.heap.size) (hb : Below B w0 w) : Below B w0 w' :=
  hb.grown h.grown (by omega) fun k hk => by have := hown.lt k hk; omega

/-! ### A row that is written over -/
/-- Block g is a row of n items of sz cells, item i as c i, and may be written. -/
structure RowNow (w : World) (g n sz : Nat) (c : Nat → List Value) : Prop where
  fz : ∀ j, w.frozen? ⟨g, j, none⟩ = false
  cells : ∀ i, i < n → w.rangeAt g (i * sz) (c i)
  len : ∀ i, i < n → (c i).length = sz

theorem RowNow.stays {w w' : World} {g n sz : Nat} {c : Nat → List Value} (h : RowNow w g n sz c) (hg : w'.heap[g]? = w.heap[g]?) : RowNow w' g n sz c :=
  ⟨fun j => by rw [World.frozen?_of_block (w := w) (a := ⟨g, j, none⟩) hg]; exact h.fz j,
   fun i hi j v hv => by rw [World.cell?_of_block (w := w) (a := ⟨g, i * sz + j, none⟩) hg]; exact h.cells i hi j v hv, h.len⟩

theorem RowNow.there {w : World} {g n sz : Nat} {c : Nat → List Value} (h : RowNow w g n sz c) (k : Nat) (hk : k < n) : w.there g (k * sz) sz := by
  intro j hj
  have hl := h.len k hk
  refine ⟨?_, h.fz _⟩
  rw [h.cells k hk j _ (List.getElem?_eq_getElem (by omega))]; rfl

theorem RowNow.set {w : World} {g n sz : Nat} {c : Nat → List Value} (h : RowNow w g n sz c) (k : Nat) (hk : k < n) (cs : List Value) (hl : cs.length = sz) : RowNow (w.setCells g (k * sz) cs) g n sz (fun i => if i = k then cs else c i) := by
  refine ⟨fun j => by rw [World.frozen?_setCells]; exact h.fz j, fun i hi => ?_, fun i hi => ?_⟩
  · by_cases e : i = k
    · subst e
      simp only [if_pos]
      exact World.rangeAt_setCells_same w g _ cs (by rw [hl]; exact h.there i hk)
    · simp only [if_neg e]
      refine World.rangeAt_setCells_apart (h.cells i hi) g _ cs (.inr ?_)
      rw [h.len i hi, hl]
      rcases Nat.lt_or_gt_of_ne e with e | e
      · left
        have : (i + 1) * sz ≤ k * sz := Nat.mul_le_mul_right _ e
        rw [Nat.add_mul] at this; omega
      · right
        have : (k + 1) * sz ≤ i * sz := Nat.mul_le_mul_right _ e
        rw [Nat.add_mul] at this; omega
  · by_cases e : i = k
    · simp only [if_pos e]; exact hl
    · simp only [if_neg e]; exact h.len i hi

theorem heap_setCells (b : Nat) : ∀ (vs : List Value) (o : Nat) (w : World) (k : Nat), k ≠ b → (w.setCells b o vs).heap[k]? = w.heap[k]?
  | [], _, _, _, _ => rfl
  | v :: r, o, w, k, h => by
    rw [World.setCells, heap_setCells b r (o + 1) _ k h]
    exact Below.heap_setCell w _ v k h
theorem size_setCells (b : Nat) : ∀ (vs : List Value) (o : Nat) (w : World), (w.setCells b o vs).heap.size = w.heap.size
  | [], _, _ => rfl
  | v :: r, o, w => by rw [World.setCells, size_setCells b r (o + 1) _]; simp [World.setCell]
theorem Below.setCells {B : Nat} {w0 w : World} (h : Below B w0 w) {b : Nat} (hb : B ≤ b) : ∀ (vs : List Value) (o : Nat), Below B w0 (w.setCells b o vs) := fun vs => by
  induction vs generalizing w with
  | nil => intro o; exact h
  | cons v r ih => intro o; rw [World.setCells]; exact ih (h.setCell hb v) (o + 1)

theorem RowNow.rowAt {w : World} {g n sz : Nat} {c : Nat → List Value} (h : RowNow w g n sz c) {D : Nat → Prop} (hD : D g) : RowAt w D (some ⟨g, 0, none⟩) n sz c :=
  fun i hi => ⟨g, 0, rfl, hD, h.fz, by rw [Nat.zero_add]; exact h.cells i hi⟩

/-! ### copy -/
theorem run_copy_k {P : Program} (w : World) (dT sT ty elem : TypeId) (g n dCap : Nat) (a : Addr) (sCap : Nat) (cur : Array Value) (t : TypeId) (cs : List Value) (size : Nat)
    (hu : P.underlying dT = some (.slice elem)) (hs : (P.info? elem).map (·.size) = some size)
    (hg : w.heap[g]? = some (.cells cur t (0, 0))) (hn : cs.length = n * size)
    (hsrc : ∀ j v, cs[j]? = some v → w.cell? (a.add j) = some v) (hfit : cs.length ≤ cur.size) (h1 : ∀ v ∈ cs, v.oneCell' = true) :
    (Builtin.copy_ #[dT, sT] ty #[.slice (some ⟨g, 0, none⟩) n dCap, .slice (some a) n sCap]).run P w =
      .ok (goInt n) (w.setRow g (cs ++ cur.toList.drop cs.length).toArray) := by
  have hl := run_loadCells_list (P := P) w a cs hsrc
  have hst := run_storeCells_at P g 0 t cs 0 cur w hg (by simpa using hfit) h1
  cases hq : P.info? elem with
  | none => simp [hq] at hs
  | some i =>
    have hi : i.size = size := by simpa [hq] using hs
    simp at hst
    simp [Builtin.copy_, run_underlying hu, Builtin.lenOf, Builtin.firstCells, sizeOf, typeInfo, hq, hi, ← hn, hl, hst]
theorem wpList_copy_k {P : Program} {w : World} {ops : Array Oper} {rest : List Oper} {o : Oper} {ac : Act} {Q : Exit → Act → World → Prop} (hgd : o.guard = none) (d s : Operand) (dT sT : TypeId)
    (ho : o.op = .call { callee := .builtin .copy, args := #[d, s], argTypes := #[dT, sT] }) (elem g n dCap : Nat) (a : Addr) (sCap : Nat) (cur : Array Value) (t : TypeId) (cs : List Value) (size : Nat)
    (hd : ac.eval d = .slice (some ⟨g, 0, none⟩) n dCap) (hs' : ac.eval s = .slice (some a) n sCap)
    (hu : P.underlying dT = some (.slice elem)) (hs : (P.info? elem).map (·.size) = some size)
    (hg : w.heap[g]? = some (.cells cur t (0, 0))) (hn : cs.length = n * size)
    (hsrc : ∀ j v, cs[j]? = some v → w.cell? (a.add j) = some v) (hfit : cs.length ≤ cur.size) (h1 : ∀ v ∈ cs, v.oneCell' = true)
    (h : wpList P ops Q rest (ac.put o.dst (goInt n)) (w.setRow g (cs ++ cur.toList.drop cs.length).toArray)) : wpList P ops Q (o :: rest) ac w := by
  refine wpList_plain hgd fun K hK => ?_
  have hrun := run_copy_k (P := P) w dT sT o.type elem g n dCap a sCap cur t cs size hu hs hg hn hsrc hfit h1
  unfold Oper.wp
  simp [execOp, ho, resolve, invoke, builtin, hd, hs', hrun, Result.andThen]
  exact hK _ _ h

/-! ### A result that lies in memory -/
theorem results_cell_mid {P : Program} {fn : Func} {p : Tmp} {ty : TypeId} (h : fn.results = #[.cell p ty]) (tmps : Array Value) (w : World) (b o : Nat) (cs : List Value) (d : TypeDesc)
    (hp : tmps.getD p undef = .pointer (some ⟨b, o, none⟩)) (hc : w.rangeAt b o cs) (hu : P.underlying ty = some d) (hd : d.isRow = true) (hi : (P.info? ty).map (·.size) = some cs.length) :
    (results fn tmps).run P w = .ok (.agg cs.toArray) w := by
  have hp' : tmps[p]?.getD undef = .pointer (some ⟨b, o, none⟩) := by simpa using hp
  simp [results, h, hp', asAddr, run_loadVar_mid w b o ty cs d hc hu hd hi]

/-- 'there' out of cells and marks. -/
theorem there_of {w : World} {b o : Nat} (n : Nat) (h : ∀ j, j < n → ∃ v, w.cell? ⟨b, o + j, none⟩ = some v) (hf : ∀ j, w.frozen? ⟨b, j, none⟩ = false) : w.there b o n := fun j hj => by
  obtain ⟨v, hv⟩ := h j hj
  exact ⟨by rw [hv]; rfl, hf _⟩

#print axioms run_copy_k
#print axioms wpList_append_rows
end Go.Proofs.YteaopephdjoegaaGreatDoor
