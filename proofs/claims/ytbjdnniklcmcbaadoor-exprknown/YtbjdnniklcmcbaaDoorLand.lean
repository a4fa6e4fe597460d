/- Arriving at a label of lex.split: what is to be shown there. -/
import Derived.Test.YtbjdnniklcmcbaaDoorS0
namespace Go.Proofs.YtbjdnniklcmcbaaDoor
open Go.RowKit

section
variable {s : ByteArray} {w0 : World} {R : Lx.Out} {a : Act} {w : World} {m : Nat} {k : Nat} {acc : List Lx.Tk} {f x fst : Nat} {en gd list c0 c1 c2 c3 : Value}

theorem land0 (hS : Slots a s (.complex .f64 (Fp.rung x) one64) (.int .i64 (fst : Int)) (.int .i64 (k : Int)) en gd list (boxAt w0)) (hI : Inv s w0 R k k acc f x fst list w) (hB : Box w w0.heap.size c0 c1 c2 c3)
    (hm : (s.size - k) * 20000 + 15000 < m) : J s w0 R 0 a w ∧ mu' s 0 a w < m :=
  ⟨⟨k, acc, f, x, fst, en, gd, list, c0, c1, c2, c3, hS, hI, hB⟩, by rw [hS.mu0]; exact hm⟩

theorem land1 (hS : Slots a s (.complex .f64 (Fp.rung x) one64) (.int .i64 (fst : Int)) (.int .i64 (k : Int)) en gd list (boxAt w0)) (hI : Inv s w0 R k (Lx.span Lx.noFeed s.data.toList k) acc f x fst list w) (hB : Box w w0.heap.size c0 c1 c2 c3)
    (hm : (s.size - k) * 20000 + (if stopAt s k then 16000 else 14000) < m) : J s w0 R 1 a w ∧ mu' s 1 a w < m :=
  ⟨⟨k, acc, f, x, fst, en, gd, list, c0, c1, c2, c3, hS, hI, hB⟩, by rw [hS.mu1]; exact hm⟩

theorem land2 {e : Nat} (hS : Slots a s (.complex .f64 (Fp.rung x) one64) (.int .i64 (fst : Int)) (.int .i64 (k : Int)) (.int .i64 (e : Int)) gd list (boxAt w0)) (hI : Inv s w0 R k k acc (f + 1) x fst list w) (hB : Box w w0.heap.size (.int .i64 0) (.string ⟨#[]⟩) (.int .i64 0) (.complex .f64 (lineW s k) (colW s k)))
    (h1 : k ≤ e) (h2 : e < s.size) (h3 : ∃ h : k < s.size, Lx.lower s[k] = true) (h4 : Lx.span Lx.goes s.data.toList (k + 1) = Lx.span Lx.goes s.data.toList (e + 1))
    (hm : (s.size - k) * 20000 + (s.size - e) + 5 < m) : J s w0 R 2 a w ∧ mu' s 2 a w < m :=
  ⟨⟨k, e, acc, f, x, fst, gd, list, hS, hI, hB, h1, h2, h3, h4⟩, by rw [hS.muE]; exact hm⟩

theorem land3 {e : Nat} (hS : Slots a s (.complex .f64 (Fp.rung x) one64) (.int .i64 (fst : Int)) (.int .i64 (k : Int)) (.int .i64 (e : Int)) gd list (boxAt w0)) (hI : Inv s w0 R k k acc (f + 1) x fst list w) (hB : Box w w0.heap.size (.int .i64 0) (.string ⟨#[]⟩) (.int .i64 0) (.complex .f64 (lineW s k) (colW s k)))
    (h1 : k ≤ e) (h2 : e < s.size) (h3 : ∃ h : k < s.size, Lx.lower s[k] = false ∧ Lx.digit s[k] = true) (h4 : Lx.span Lx.digit s.data.toList (k + 1) = Lx.span Lx.digit s.data.toList (e + 1))
    (hm : (s.size - k) * 20000 + (s.size - e) + 5 < m) : J s w0 R 3 a w ∧ mu' s 3 a w < m :=
  ⟨⟨k, e, acc, f, x, fst, gd, list, hS, hI, hB, h1, h2, h3, h4⟩, by rw [hS.muE]; exact hm⟩

theorem land4 (hS : Slots a s (.complex .f64 (Fp.rung x) one64) (.int .i64 (fst : Int)) (.int .i64 (k : Int)) (.int .i64 (k : Int)) gd list (boxAt w0)) (hI : Inv s w0 R k k acc (f + 1) x fst list w) (hB : Box w w0.heap.size (.int .i64 0) (.string ⟨#[]⟩) (.int .i64 0) (.complex .f64 (lineW s k) (colW s k)))
    (h3 : ∃ h : k < s.size, Lx.lower s[k] = false ∧ Lx.digit s[k] = false ∧ Lx.blank s[k] = false ∧ s[k] ≠ 35)
    (hm : (s.size - k) * 20000 + 4 < m) : J s w0 R 4 a w ∧ mu' s 4 a w < m :=
  ⟨⟨k, acc, f, x, fst, gd, list, hS, hI, hB, h3⟩, by rw [hS.muE]; exact hm⟩

theorem land5 {e kd n : Nat} {b : Bool} (hS : Slots a s (.complex .f64 (Fp.rung x) one64) (.int .i64 (fst : Int)) (.int .i64 (k : Int)) (.int .i64 (e : Int)) (.bool b) list (boxAt w0)) (hI : Inv s w0 R k k acc (f + 1) x fst list w) (hB : Box w w0.heap.size (.int .i64 (kd : Int)) (.string ⟨#[]⟩) (.int .i64 (n : Int)) (.complex .f64 (lineW s k) (colW s k)))
    (h3 : ∃ h : k < s.size, Lx.blank s[k] = false ∧ s[k] ≠ 35) (h4 : k ≤ e) (h5 : e ≤ s.size) (h6 : b = true → k < e ∧ Lx.one (s.data.toList.drop k) = some (kd, e - k, n)) (h7 : b = false → Lx.one (s.data.toList.drop k) = none)
    (hm : (s.size - k) * 20000 + 3 < m) : J s w0 R 5 a w ∧ mu' s 5 a w < m :=
  ⟨⟨k, e, kd, n, b, acc, f, x, fst, list, hS, hI, hB, h3, h4, h5, h6, h7⟩, by rw [hS.muE]; exact hm⟩

theorem Inv.fuel1 (h : Inv s w0 R k k acc f x fst list w) (hk : k < s.size) : ∃ g, f = g + 1 := ⟨f - 1, by have := h.fuel; omega⟩

/-- Over a blank. -/
theorem Inv.blank (h : Inv s w0 R k k acc f x fst list w) (hk : k < s.size) (hb : Lx.blank s[k] = true) (hn : s[k] ≠ 10) : ∃ g, Inv s w0 R (k + 1) (k + 1) acc g x fst list w := by
  obtain ⟨g, rfl⟩ := h.fuel1 hk
  have hl : k < s.data.toList.length := by simpa using hk
  have e := byte_at s k hk
  have hf := h.fuel
  have hfk := h.fk
  have ha := h.acl
  refine ⟨g, Nat.le_refl _, hk, by omega, ?_, by omega, ?_, h.own, h.bel, by omega⟩
  · rw [← Lx.step_blank s.data.toList g k acc hl (by rw [e]; exact hb)]; exact h.run
  · rw [Sp.spot_succ _ k hl, h.spot, e, Sp.on, if_neg hn]
    simp only [Prod.mk.injEq, true_and]
    omega

/-- Over a line feed. -/
theorem Inv.feed (h : Inv s w0 R k k acc f x fst list w) (hk : k < s.size) (hn : s[k] = 10) : ∃ g, Inv s w0 R (k + 1) (k + 1) acc g (x + 1) (k + 1) list w := by
  obtain ⟨g, rfl⟩ := h.fuel1 hk
  have hl : k < s.data.toList.length := by simpa using hk
  have e := byte_at s k hk
  have hf := h.fuel
  have ha := h.acl
  refine ⟨g, Nat.le_refl _, hk, by omega, ?_, Nat.le_refl _, ?_, h.own, h.bel, by omega⟩
  · rw [← Lx.step_blank s.data.toList g k acc hl (by rw [e, hn]; decide)]; exact h.run
  · rw [Sp.spot_succ _ k hl, h.spot, e, Sp.on, if_pos hn]
    simp only [Nat.sub_self, Nat.zero_add]

/-- Into a note. -/
theorem Inv.note (h : Inv s w0 R k k acc f x fst list w) (hk : k < s.size) (hn : s[k] = 35) : ∃ g, Inv s w0 R k (Lx.span Lx.noFeed s.data.toList k) acc g x fst list w := by
  obtain ⟨g, rfl⟩ := h.fuel1 hk
  have hl : k < s.data.toList.length := by simpa using hk
  have e := byte_at s k hk
  have e2 : s.data.toList[k] = 35 := e.trans hn
  have hf := h.fuel
  have ha := h.acl
  have hsp := Lx.span_yes Lx.noFeed s.data.toList k hl (by rw [e2]; decide)
  have h1 := Lx.le_span Lx.noFeed s.data.toList (k + 1)
  have h2 := Lx.span_le Lx.noFeed s.data.toList (k + 1) (by omega)
  have hll : s.data.toList.length = s.size := by simp
  refine ⟨g, by omega, by omega, by omega, ?_, h.fk, h.spot, h.own, h.bel, by omega⟩
  rw [hsp, ← Lx.step_note s.data.toList g k acc hl e2]; exact h.run

theorem stop_no (hk : k < s.size) (hn : s[k] ≠ 10) : stopAt s k = false := by
  have hl : k < s.data.toList.length := by simpa using hk
  unfold stopAt
  rw [List.getElem?_eq_getElem hl, byte_at s k hk]
  simpa using hn
theorem stop_yes (hk : k < s.size) (hn : s[k] = 10) : stopAt s k = true := by
  have hl : k < s.data.toList.length := by simpa using hk
  unfold stopAt
  rw [List.getElem?_eq_getElem hl, byte_at s k hk]
  simpa using hn
theorem stop_end (hk : k = s.size) : stopAt s k = true := by
  have hl : ¬ k < s.data.toList.length := by simp; omega
  unfold stopAt
  rw [List.getElem?_eq_none (by omega)]

/-- A byte of a note. -/
theorem Inv.noteOn (h : Inv s w0 R k (Lx.span Lx.noFeed s.data.toList k) acc f x fst list w) (hk : k < s.size) (hn : s[k] ≠ 10) : Inv s w0 R (k + 1) (Lx.span Lx.noFeed s.data.toList (k + 1)) acc f x fst list w := by
  have hl : k < s.data.toList.length := by simpa using hk
  have e := byte_at s k hk
  have hsp := Lx.span_yes Lx.noFeed s.data.toList k hl (by rw [e]; simpa [Lx.noFeed] using hn)
  have h1 := Lx.le_span Lx.noFeed s.data.toList (k + 1)
  rw [hsp] at h
  have hfk := h.fk
  refine { h with kp := h1, fk := by omega, spot := ?_ }
  rw [Sp.spot_succ _ k hl, h.spot, e, Sp.on, if_neg hn]
  simp only [Prod.mk.injEq, true_and]
  omega

theorem Inv.noteEnd (h : Inv s w0 R k (Lx.span Lx.noFeed s.data.toList k) acc f x fst list w) (hk : k = s.size ∨ ∃ h : k < s.size, s[k] = 10) : Inv s w0 R k k acc f x fst list w := by
  have e : Lx.span Lx.noFeed s.data.toList k = k := by
    rcases hk with rfl | ⟨hk, hn⟩
    · have hll : s.data.toList.length = s.size := by simp
      rw [← hll]; exact Lx.span_end _ _
    · have hl : k < s.data.toList.length := by simpa using hk
      exact Lx.span_no _ _ k hl (by rw [byte_at s k hk, hn]; decide)
  rwa [e] at h

end
end Go.Proofs.YtbjdnniklcmcbaaDoor
