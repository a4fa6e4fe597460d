/- Facts on one token of a text: where it ends, what it is, that it holds no line feed; memory that a call leaves. -/
import Derived.Test.YtbjdnniklcmcbaaDoorLand
namespace Go.Proofs.YtbjdnniklcmcbaaDoor
open Go.RowKit

theorem lower_no10 (c : UInt8) (h : Lx.lower c = true) : c ≠ 10 := by intro e; subst e; exact absurd h (by decide)
theorem digit_no10 (c : UInt8) (h : Lx.digit c = true) : c ≠ 10 := by intro e; subst e; exact absurd h (by decide)
theorem goes_no10 (c : UInt8) (h : Lx.goes c = true) : c ≠ 10 := by intro e; subst e; exact absurd h (by decide)

theorem take_one' (c : UInt8) (r : List UInt8) (p : UInt8 → Bool) : (c :: r).take (1 + (r.takeWhile p).length) = c :: r.takeWhile p := by
  rw [Nat.add_comm, List.take_succ_cons]
  congr 1
  induction r with
  | nil => rfl
  | cons d r ih =>
    rw [List.takeWhile_cons]
    split
    · rw [List.length_cons, List.take_succ_cons, ih]
    · rfl

theorem one_flat (l : List UInt8) {kd len n : Nat} (h : Lx.one l = some (kd, len, n)) : ∀ c ∈ l.take len, c ≠ 10 := by
  cases l with
  | nil => cases h
  | cons c r =>
    rw [Lx.one_cons] at h
    by_cases c1 : Lx.lower c = true
    · rw [if_pos c1] at h
      split at h
      · simp only [Option.some.injEq, Prod.mk.injEq] at h
        obtain ⟨_, rfl, _⟩ := h
        rw [take_one']
        intro x hx
        rcases List.mem_cons.1 hx with rfl | hx
        · exact lower_no10 _ c1
        · exact goes_no10 _ (Lx.takeWhile_all _ _ x hx)
      · cases h
    · rw [if_neg c1] at h
      by_cases c2 : Lx.digit c = true
      · rw [if_pos c2] at h
        cases hn : Lx.num (c :: r.takeWhile Lx.digit) with
        | none => rw [hn] at h; cases h
        | some v =>
          rw [hn] at h
          simp only [Option.map_some, Option.some.injEq, Prod.mk.injEq] at h
          obtain ⟨_, rfl, _⟩ := h
          rw [take_one']
          intro x hx
          rcases List.mem_cons.1 hx with rfl | hx
          · exact digit_no10 _ c2
          · exact digit_no10 _ (Lx.takeWhile_all _ _ x hx)
      · rw [if_neg c2] at h
        by_cases c3 : c = 61 ∧ r.head? = some 61
        · rw [if_pos c3] at h
          simp only [Option.some.injEq, Prod.mk.injEq] at h
          obtain ⟨_, rfl, _⟩ := h
          obtain ⟨rfl, hr⟩ := c3
          cases r with
          | nil => cases hr
          | cons d r =>
            simp only [List.head?_cons, Option.some.injEq] at hr
            subst hr
            intro x hx
            simp at hx
            subst hx
            decide
        · rw [if_neg c3] at h
          by_cases c4 : Lx.signs.contains c = true
          · rw [if_pos c4] at h
            simp only [Option.some.injEq, Prod.mk.injEq] at h
            obtain ⟨_, rfl, _⟩ := h
            intro x hx
            simp at hx
            subst hx
            intro e
            subst e
            exact absurd c4 (by decide)
          · rw [if_neg c4] at h; cases h

theorem spot_flat (m : List UInt8) (h : ∀ c ∈ m, c ≠ 10) : Sp.spot m = (1, m.length + 1) := by
  suffices H : ∀ n (m : List UInt8), m.length = n → (∀ c ∈ m, c ≠ 10) → Sp.spot m = (1, m.length + 1) from H _ m rfl h
  intro n
  induction n with
  | zero => intro m hm _; have : m = [] := List.length_eq_zero_iff.1 hm; subst this; rfl
  | succ n ih =>
    intro m hm h
    have hne : m ≠ [] := by intro e; rw [e] at hm; simp at hm
    obtain ⟨l, c, rfl⟩ : ∃ l c, m = l ++ [c] := ⟨m.dropLast, m.getLast hne, (List.dropLast_concat_getLast hne).symm⟩
    rw [Sp.spot_snoc, ih l (by simp at hm; omega) (fun x hx => h x (by simp [hx])), Sp.on, if_neg (h c (by simp))]
    simp

/-- The place behind a token. -/
theorem spot_behind (l : List UInt8) (k len x c : Nat) (hk : Sp.spot (l.take k) = (x, c)) (h : ∀ b ∈ (l.drop k).take len, b ≠ 10) (hlen : k + len ≤ l.length) : Sp.spot (l.take (k + len)) = (x, c + len) := by
  have p1 := Sp.line_pos (l.take k)
  have p2 := Sp.col_pos (l.take k)
  rw [hk] at p1 p2
  simp only at p1 p2
  rw [List.take_add, Sp.spot_append, hk, spot_flat _ h, List.length_take, List.length_drop]
  simp only [if_true, Prod.mk.injEq]
  omega

theorem text_of (s : ByteArray) (k e : Nat) (_hk : k ≤ e) (_he : e ≤ s.size) : (s.extract k e) = ⟨((s.data.toList.drop k).take (e - k)).toArray⟩ := by
  apply ByteArray.ext
  apply Array.ext'
  rw [ByteArray.data_extract, Array.toList_extract, List.extract_eq_take_drop]

section
variable {s : ByteArray} {w0 : World} {R : Lx.Out} {w w1 : World} {k e kd n : Nat} {acc : List Lx.Tk} {f x fst : Nat} {list : Value}

theorem own_kept {b : Nat} {t : TypeId} {z : Nat} {v : Value} {c : Nat} {xs : List Value} (h : w.ownsRow b t z v c xs) (hk : Kept w w1) : w1.ownsRow b t z v c xs := by
  obtain ⟨h1, h2⟩ := h
  refine ⟨h1, ?_⟩
  rcases h2 with h2 | ⟨g, cap, cur, a1, a2, a3, a4⟩
  · exact .inl h2
  · refine .inr ⟨g, cap, cur, a1, a2, ?_, a4⟩
    have hg : g < w.heap.size := by
      rcases Nat.lt_or_ge g w.heap.size with hlt | hge
      · exact hlt
      · rw [Array.getElem?_eq_none hge] at a3; cases a3
    rw [hk.block g hg]; exact a3

theorem Inv.kept {p : Nat} (h : Inv s w0 R k p acc f x fst list w) (hk : Kept w w1) : Inv s w0 R k p acc f x fst list w1 :=
  { h with own := own_kept h.own hk, bel := h.bel.trans (hk.mono h.bel.size) }

theorem Box.kept {B : Nat} {c0 c1 c2 c3 : Value} (h : Box w B c0 c1 c2 c3) (hk : Kept w w1) : Box w1 B c0 c1 c2 c3 := h.block (hk.block B h.lt)

/-- Behind a token that was taken. -/
theorem Inv.taken {list' : Value} (h : Inv s w0 R k k acc (f + 1) x fst list w) (hk : k < s.size) (h1 : Lx.blank s[k] = false) (h2 : s[k] ≠ 35) (hke : k < e) (he : e ≤ s.size) (ho : Lx.one (s.data.toList.drop k) = some (kd, e - k, n))
    (ho1 : w1.ownsRow (w0.heap.size + 1) 50 4 list' (acc.length + 1) (cellsOf s acc ++ [.int .i64 (kd : Int), .string (s.extract k e), .int .i64 (n : Int), .complex .f64 (lineW s k) (colW s k)])) (hb : Below w0.heap.size w0 w1) :
    Inv s w0 R e e (acc ++ [⟨kd, k, (s.data.toList.drop k).take (e - k), n⟩]) f x fst list' w1 := by
  have hll : s.data.toList.length = s.size := by simp
  have hl : k < s.data.toList.length := by omega
  have hf := h.fuel
  have hfk := h.fk
  have ha := h.acl
  refine ⟨Nat.le_refl _, he, by omega, ?_, by omega, ?_, ?_, hb, by rw [List.length_append]; simp; omega⟩
  · have e1 := Lx.step_one s.data.toList f k acc hl (by rw [byte_at s k hk]; exact h1) (by rw [byte_at s k hk]; exact h2) ho
    rw [show k + (e - k) = e by omega] at e1
    rw [← e1]; exact h.run
  · have := spot_behind s.data.toList k (e - k) x (k - fst + 1) h.spot (one_flat _ ho) (by omega)
    rw [show k + (e - k) = e by omega] at this
    rw [this]
    simp only [Prod.mk.injEq, true_and]
    omega
  · rw [cellsOf_snoc, List.length_append, List.length_singleton]
    rw [text_of s k e (by omega) he] at ho1
    exact ho1

theorem told_bad (h : Inv s w0 R k k acc (f + 1) x fst list w) (hk : k < s.size) (h1 : Lx.blank s[k] = false) (h2 : s[k] ≠ 35) (ho : Lx.one (s.data.toList.drop k) = none) : R = .bad k := by
  have hl : k < s.data.toList.length := by simpa using hk
  rw [← h.run]
  exact Lx.step_none s.data.toList f k acc hl (by rw [byte_at s k hk]; exact h1) (by rw [byte_at s k hk]; exact h2) ho

theorem span_len (p : UInt8 → Bool) (l : List UInt8) (i : Nat) : (l.drop i).takeWhile p = (l.drop i).take (Lx.span p l i - i) := by
  unfold Lx.span
  rw [show i + ((l.drop i).takeWhile p).length - i = ((l.drop i).takeWhile p).length by omega]
  generalize l.drop i = r
  induction r with
  | nil => rfl
  | cons d r ih =>
    rw [List.takeWhile_cons]
    split
    · rw [List.length_cons, List.take_succ_cons, ← ih]
    · rfl

/-- A word's token. -/
theorem one_word (hk : k < s.size) (hl : Lx.lower s[k] = true) (hke : k ≤ e) (hsp : Lx.span Lx.goes s.data.toList (k + 1) = e + 1) : Lx.one (s.data.toList.drop k) = if e + 1 - k ≤ 12 then some (1, e + 1 - k, 0) else none := by
  have hll : k < s.data.toList.length := by simpa using hk
  rw [Lx.drop_at _ k hll, Lx.one_cons, byte_at s k hk, if_pos hl]
  have : ((s.data.toList.drop (k + 1)).takeWhile Lx.goes).length = e - k := by
    unfold Lx.span at hsp; omega
  rw [this, show 1 + (e - k) = e + 1 - k by omega]

/-- A number's digits. -/
theorem digits_of (hk : k < s.size) (hd : Lx.digit s[k] = true) (hke : k ≤ e) (he : e < s.size) (hsp : Lx.span Lx.digit s.data.toList (k + 1) = e + 1) :
    (s.extract k (e + 1)).data.toList = s[k] :: (s.data.toList.drop (k + 1)).takeWhile Lx.digit ∧ (∀ c ∈ (s.extract k (e + 1)).data.toList, Lx.digit c = true) ∧ (s.extract k (e + 1)).data.toList ≠ [] ∧ (s.extract k (e + 1)).size ≤ s.size := by
  have hll : k < s.data.toList.length := by simpa using hk
  have h1 : (s.extract k (e + 1)).data.toList = s[k] :: (s.data.toList.drop (k + 1)).takeWhile Lx.digit := by
    rw [text_of s k (e + 1) (by omega) (by omega)]
    show (s.data.toList.drop k).take (e + 1 - k) = _
    rw [Lx.drop_at _ k hll, byte_at s k hk, span_len, hsp, show e + 1 - k = (e + 1 - (k + 1)) + 1 by omega, List.take_succ_cons]
  refine ⟨h1, ?_, by rw [h1]; simp, by rw [ByteArray.size_extract]; omega⟩
  rw [h1]
  intro c hc
  rcases List.mem_cons.1 hc with rfl | hc
  · exact hd
  · exact Lx.takeWhile_all _ _ c hc

theorem one_number {o : Option Nat} (hk : k < s.size) (hl : Lx.lower s[k] = false) (hd : Lx.digit s[k] = true) (hke : k ≤ e) (he : e < s.size) (hsp : Lx.span Lx.digit s.data.toList (k + 1) = e + 1) (ho : Lx.num (s.extract k (e + 1)).data.toList = o) :
    Lx.one (s.data.toList.drop k) = o.map fun n => (2, e + 1 - k, n) := by
  have hll : k < s.data.toList.length := by simpa using hk
  rw [(digits_of hk hd hke he hsp).1] at ho
  rw [Lx.drop_at _ k hll, Lx.one_cons, byte_at s k hk, if_neg (by rw [hl]; decide), if_pos hd, ho]
  have : ((s.data.toList.drop (k + 1)).takeWhile Lx.digit).length = e - k := by
    unfold Lx.span at hsp; omega
  rw [this, show 1 + (e - k) = e + 1 - k by omega]

theorem one_sign (hk : k < s.size) (hl : Lx.lower s[k] = false) (hd : Lx.digit s[k] = false) : Lx.one (s.data.toList.drop k) = if signLen (s.data.toList.drop k) = 0 then none else some (3, signLen (s.data.toList.drop k), 0) := by
  have hll : k < s.data.toList.length := by simpa using hk
  rw [Lx.drop_at _ k hll, Lx.one_cons, byte_at s k hk, if_neg (by rw [hl]; decide), if_neg (by rw [hd]; decide)]
  unfold signLen
  simp only
  by_cases c1 : s[k] = 61
  · rw [if_pos c1]
    by_cases c2 : (s.data.toList.drop (k + 1)).head? = some 61
    · rw [if_pos ⟨c1, c2⟩, if_pos c2]; rfl
    · rw [if_neg (fun h => c2 h.2), if_neg c2, if_pos (by rw [c1]; decide)]; rfl
  · rw [if_neg (fun h => c1 h.1), if_neg c1]
    by_cases c3 : Lx.signs.contains s[k] = true
    · rw [if_pos c3, if_pos c3]; rfl
    · rw [if_neg c3, if_neg c3]; rfl

theorem signLen_le (l : List UInt8) : signLen l ≤ l.length := by
  unfold signLen
  cases l with
  | nil => exact Nat.le_refl _
  | cons c r =>
    simp only
    by_cases c1 : c = 61
    · rw [if_pos c1]
      cases r with
      | nil => simp
      | cons d r => split <;> simp
    · rw [if_neg c1]; split <;> simp

end
end Go.Proofs.YtbjdnniklcmcbaaDoor
