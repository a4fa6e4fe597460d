/- What is asked of each line of a text. -/
import Derived.Test.YtkobdephobaopaaGreatDoorSmA
import Derived.Test.YtkobdephobaopaaGreatDoorXc
import Derived.Test.YtkobdephobaopaaGreatDoorXB
import Derived.Test.YtkobdephobaopaaGreatDoorPl6
import Derived.Test.YtkobdephobaopaaGreatDoorLf6
namespace Go.Proofs.YtkobdephobaopaaGreatDoor
open Go.RowKit
open Ps.Pu (printP made_print)
open Ps.Ql (plines put puts goes step cnt cnts One)
attribute [local go_sem] run_store_complex

theorem line_cell6 {s : ByteArray} {w w' : World} {L : List (List UInt8)} {a : Option Addr} {n cap f i : Nat} (h : LnJ s w w' L (.slice a n cap) f i) (k : Nat) (hk : k < L.length) :
    ∃ b, a = some ⟨b, 0, none⟩ ∧ b < w'.heap.size ∧ w'.cell? ⟨b, k, none⟩ = some (.string (Px.ba L[k])) := by
  rcases h.row.2 with ⟨e, _⟩ | ⟨g, cap, cur, e, _, _, _, _, _, _⟩
  · injection e with e1 e2 e3
    have := h.row.1
    rw [strs, List.length_map] at this
    subst e2
    rcases own_slice h.row with ⟨a', cap', e', hs⟩
    injection e' with e1 e2 e3
    omega
  · injection e with e1 e2 e3
    subst e1
    have hc := h.row.cells (g := g) rfl k (.string (Px.ba L[k])) (by simp [strs, hk])
    rw [Addr.add_mid, Nat.zero_add] at hc
    exact ⟨g, rfl, block_lt_of_cell hc, hc⟩
theorem line_len6 {s : ByteArray} {w w' : World} {L : List (List UInt8)} {v : Value} {f i : Nat} (h : LnJ s w w' L v f i) : ∃ a cap, v = .slice a L.length cap := by
  obtain ⟨a, cap, e, -⟩ := own_slice h.row
  exact ⟨a, cap, e⟩
theorem cnts_take (l : List St) (k : Nat) (h : k < l.length) : cnts (l.take (k + 1)) = cnts (l.take k) + cnt l[k] := by
  rw [List.take_succ_eq_append_getElem h, Ps.Ql.cnts_append]
  simp [Ps.Ql.cnts]
theorem cnt_le (x : St) : cnt x ≤ 3 := by unfold Ps.Ql.cnt; split <;> split <;> omega
theorem cnts_take_le (l : List St) (k : Nat) (h : k ≤ l.length) : cnts (l.take k) ≤ 3 * k := by
  induction k with
  | zero => simp [Ps.Ql.cnts]
  | succ k ih =>
    rw [cnts_take l k (by omega)]
    have := ih (by omega)
    have := cnt_le l[k]
    omega
theorem flatTs_small : ∀ (t : List (List St)), (∀ b ∈ t, St.sizes b ≤ 16) → (flatTs t).length ≤ 16 * t.length
  | [], _ => by simp [flatTs]
  | b :: t, h => by
    rw [flatTs, List.length_append, St.flats_len, List.length_cons]
    have := flatTs_small t fun y hy => h y (List.mem_cons_of_mem _ hy)
    have := h b (List.mem_cons_self ..)
    omega
theorem flat_mem : ∀ (L : List (List UInt8)) (x : List UInt8), x ∈ L → x.length ≤ L.flatten.length
  | [], x, h => by cases h
  | y :: L, x, h => by
    rw [List.flatten_cons, List.length_append]
    rcases List.mem_cons.1 h with rfl | h
    · omega
    · have := flat_mem L x h; omega
theorem puts_flat (l : List Ps.Ql.Li) : (l.map put).flatten = puts l := by unfold Ps.Ql.puts; rw [List.flatMap_def]
theorem goes_one : ∀ (l : List Ps.Ql.Li) (a b : Int), goes l a b → ∀ x ∈ l, One x.2
  | [], _, _, _, x, hx => by cases hx
  | y :: l, a, b, h, x, hx => by
    rw [Ps.Ql.goes] at h
    rcases List.mem_cons.1 hx with rfl | hx
    · exact h.1
    · exact goes_one l _ _ h.2.2 x hx
theorem puts_fed {l : List Ps.Ql.Li} (h : ∀ x ∈ l, One x.2) : Ps.Fed1 (l.map put) := by
  intro z hz
  obtain ⟨x, hx, rfl⟩ := List.mem_map.1 hz
  refine ⟨Ps.tabs x.1 ++ x.2, by unfold Ps.Ql.put; simp, fun c hc => ?_⟩
  rcases List.mem_append.1 hc with hc | hc
  · unfold Ps.tabs at hc
    rw [List.eq_of_mem_replicate hc]; decide
  · exact (h x hx).feed c hc
theorem goes_drop (l : List Ps.Ql.Li) (k : Nat) (h : k < l.length) (a b : Int) (hg : goes (l.drop k) a b) : One l[k].2 ∧ (l[k].1 : Int) = (if l[k].2.head? = some 125 then a - 1 else a) ∧ goes (l.drop (k + 1)) (Ps.Ql.step a l[k].2) b := by
  rw [List.drop_eq_getElem_cons h, Ps.Ql.goes] at hg
  exact hg
theorem ends_feed {d : List Dc} {t : List (List St)} (h : t ≠ []) : ∃ a, Ps.shown d t = a ++ [10] := by
  obtain ⟨l, b, rfl⟩ : ∃ l b, t = l ++ [b] := ⟨t.dropLast, t.getLast h, (List.dropLast_concat_getLast h).symm⟩
  refine ⟨Ps.dtexts d ++ (l.flatMap Ps.ttext ++ ([103, 111, 32, 123, 10] ++ Ps.texts b 1 ++ [125])), ?_⟩
  unfold Ps.shown Ps.ttexts
  simp [Ps.ttext]

/-- What is asked of a line. -/
structure LineOk (X W : ByteArray) (dn N M : Nat) (bb cc : Bool) : Prop where
  lt : dn < X.size
  tab : ∀ j (h : j < dn), (((X[j]'(by omega)).toNat : Int) == 9) = true
  non : (((X[dn]'lt).toNat : Int) == 9) = false
  cut : X.extract dn X.size = W
  zle : W.size ≤ X.size
  pos : N < W.size
  last : W.size = N + 1
  two : M + 1 = N
  emp : (W.toList == ([] : List UInt8)) = false
  fst : (((W[0]'(by omega)).toNat : Int) == 125) = bb
  fed : (((W[N]'pos).toNat : Int) != 10) = false
  opn : (((W[M]'(by omega)).toNat : Int) == 123) = cc
theorem ba_get (l : List UInt8) (j : Nat) (h : j < (Px.ba l).size) : (Px.ba l)[j]'h = l[j]'(by rw [Px.ba_size] at h; exact h) := by
  show l.toArray[j]'(by simpa using (by rw [Px.ba_size] at h; exact h : j < l.length)) = _
  rw [List.getElem_toArray]
theorem line_ok (dn : Nat) (y : List UInt8) (h : One y) : LineOk (Px.ba (put (dn, y))) (Px.ba (y ++ [10])) dn y.length (y.length - 1) (decide (y.head? = some 125)) (decide (y.getLast? = some 123)) := by
  obtain ⟨c, r, rfl⟩ : ∃ c r, y = c :: r := by
    cases y with
    | nil => exact absurd rfl h.ne
    | cons c r => exact ⟨c, r, rfl⟩
  have hs : (Px.ba (put (dn, c :: r))).size = dn + ((c :: r).length + 1) := by rw [Px.ba_size]; unfold Ps.Ql.put; simp [Ps.tabs_len]
  have hw : (Px.ba ((c :: r) ++ [10])).size = (c :: r).length + 1 := by rw [Px.ba_size]; simp
  have hlt : dn < (Px.ba (put (dn, c :: r))).size := by rw [hs]; simp
  have h9 : c ≠ 9 := by simpa using h.tab
  have gx : ∀ j (hj : j < (put (dn, c :: r)).length) (h1 : dn ≤ j) (h2 : j - dn < ((c :: r) ++ [10]).length), (put (dn, c :: r))[j]'hj = ((c :: r) ++ [10])[j - dn]'h2 := fun j hj h1 h2 => by
    have e : (put (dn, c :: r))[j]? = ((c :: r) ++ [10])[j - dn]? := by
      show (Ps.tabs dn ++ ((c :: r) ++ [10]))[j]? = _
      rw [List.getElem?_append_right (by rw [Ps.tabs_len]; exact h1), Ps.tabs_len]
    rw [List.getElem?_eq_getElem hj, List.getElem?_eq_getElem h2] at e
    exact Option.some.inj e
  refine ⟨hlt, fun j hj => ?_, ?_, ?_, by rw [hs, hw]; omega, ?_, hw, ?_, ?_, ?_, ?_, ?_⟩
  · rw [ba_get]
    have : (put (dn, c :: r))[j]'(by rw [← Px.ba_size]; omega) = 9 := by
      unfold Ps.Ql.put
      rw [List.getElem_append_left (by rw [Ps.tabs_len]; exact hj)]
      unfold Ps.tabs
      rw [List.getElem_replicate]
    rw [this]; rfl
  · rw [ba_get, gx dn _ (Nat.le_refl _) (by simp)]
    simp only [Nat.sub_self, List.cons_append, List.getElem_cons_zero]
    rw [beq_eq_false_iff_ne]
    intro e
    apply h9
    apply UInt8.toNat_inj.1
    show c.toNat = 9
    omega
  · rw [text_of _ dn _ (by omega) (Nat.le_refl _)]
    show (⟨_⟩ : ByteArray) = ⟨_⟩
    congr 2
    rw [hs]
    show (List.drop dn (put (dn, c :: r))).take _ = _
    unfold Ps.Ql.put
    rw [List.drop_append_of_le_length (by rw [Ps.tabs_len]; exact Nat.le_refl _), List.drop_eq_nil_of_le (by rw [Ps.tabs_len]; exact Nat.le_refl _), List.nil_append, List.take_of_length_le (by simp)]
  · rw [hw]; omega
  · simp
  · rw [toList_data]; rfl
  · rw [ba_get]
    simp only [List.cons_append, List.getElem_cons_zero, List.head?_cons, Option.some.injEq]
    by_cases e : c = 125
    · subst e; rfl
    · rw [decide_eq_false e, beq_eq_false_iff_ne]
      intro e2
      apply e
      apply UInt8.toNat_inj.1
      show c.toNat = 125
      omega
  · rw [ba_get, List.getElem_append_right (Nat.le_refl _)]
    simp
  · rw [ba_get, List.getElem_append_left (by simp)]
    have hl : (c :: r).getLast? = some ((c :: r)[(c :: r).length - 1]'(by simp)) := by rw [List.getLast?_eq_getElem?, List.getElem?_eq_getElem (by simp)]
    rw [hl]
    generalize (c :: r)[(c :: r).length - 1]'(by simp) = z
    by_cases e : z = 123
    · subst e; rfl
    · rw [decide_eq_false (by simpa using e), beq_eq_false_iff_ne]
      intro e2
      apply e
      apply UInt8.toNat_inj.1
      show z.toNat = 123
      omega
#print axioms line_ok
end Go.Proofs.YtkobdephobaopaaGreatDoor
