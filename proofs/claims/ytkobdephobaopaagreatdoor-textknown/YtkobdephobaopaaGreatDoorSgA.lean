/- lex.split from its label 'between' on: at the text's end. Arriving at a label of lex.split: what is to be shown there. lex.split from its label 'between' on: at a byte. Facts on one token of a text: where it ends, what it is, that it holds no line feed; memory that a call leaves. -/
import Derived.Test.YtkobdephobaopaaGreatDoorFr

namespace Go.Proofs.YtkobdephobaopaaGreatDoor
open Go.RowKit
attribute [local go_sem] run_store_complex

theorem tok_info : ∃ i, Tryz.prog.info? 68 = some i ∧ i.zero = some (.agg #[.int .i64 0, .string ⟨#[]⟩, .int .i64 0, .complex .f64 0 0]) ∧ i.size = 4 ∧ i.bytes = 48 := by
  have h : (Tryz.prog.info? 68).map (fun i => (i.zero, i.size, i.bytes)) = some (some (.agg #[.int .i64 0, .string ⟨#[]⟩, .int .i64 0, .complex .f64 0 0]), 4, 48) := by kernel_rfl
  cases hi : Tryz.prog.info? 68 with
  | none => rw [hi] at h; cases h
  | some i =>
    rw [hi] at h
    simp only [Option.map_some, Option.some.injEq, Prod.mk.injEq] at h
    exact ⟨i, rfl, h.1, h.2.1, h.2.2⟩

theorem news_at (w : World) (c0 c1 c2 c3 : Value) (t : TypeId) : ∀ j u, [c0, c1, c2, c3][j]? = some u → (w.alloc (.cells #[c0, c1, c2, c3] t)).cell? ((⟨w.heap.size, 0, none⟩ : Addr).add j) = some u := by
  intro j u hj
  match j, hj with
  | 0, hj => simp at hj; subst hj; simp [Addr.add]
  | 1, hj => simp at hj; subst hj; simp [Addr.add]
  | 2, hj => simp at hj; subst hj; simp [Addr.add]
  | 3, hj => simp at hj; subst hj; simp [Addr.add]
  | j + 4, hj => simp at hj

theorem news_of (w : World) (B : Nat) (hB : w.heap.size = B) (c0 c1 c2 c3 : Value) (t : TypeId) : ∀ j u, [c0, c1, c2, c3][j]? = some u → (w.alloc (.cells #[c0, c1, c2, c3] t)).cell? ((⟨B, 0, none⟩ : Addr).add j) = some u := by
  subst hB; exact news_at w c0 c1 c2 c3 t

theorem told_end {s : ByteArray} {w0 : World} {R : Lx.Out} {k : Nat} {acc : List Lx.Tk} {f x fst : Nat} {list : Value} {w : World} (h : Inv s w0 R k k acc f x fst list w) (hk : k = s.size) : R = .good (acc ++ [⟨4, k, [], 0⟩]) := by
  have hf := h.fuel
  cases f with
  | zero => omega
  | succ f =>
    have := h.run
    have hl : s.data.toList.length = s.size := by simp
    rw [hk, ← hl] at this ⊢
    rw [Lx.step_end] at this
    exact this.symm

theorem own_lower {w : World} {b b' : Nat} {e : TypeId} {size : Nat} {v : Value} {n : Nat} {xs : List Value} (h : w.ownsRow b e size v n xs) (hb : b' ≤ b) : w.ownsRow b' e size v n xs := by
  obtain ⟨h1, h2⟩ := h
  refine ⟨h1, ?_⟩
  rcases h2 with h2 | ⟨g, cap, cur, a1, a2, a3⟩
  · exact .inl h2
  · exact .inr ⟨g, cap, cur, a1, Nat.le_trans hb a2, a3⟩

/-- Behind the append of a token. -/
theorem behind_append {s : ByteArray} {w0 : World} {R : Lx.Out} {k p : Nat} {acc : List Lx.Tk} {f x fst : Nat} {list : Value} {w w1 : World} (h : Inv s w0 R k p acc f x fst list w) (hB : w0.heap.size < w.heap.size) {o : Obj} (hg : (w.alloc o).grownBy w1 list.ownBlock) :
    Below w0.heap.size w0 w1 ∧ w1.heap[w0.heap.size]? = w.heap[w0.heap.size]? := by
  have hr : ∀ k, list.ownBlock = some k → w0.heap.size + 1 ≤ k ∧ k < w.heap.size := fun k e => h.own.lt k e
  refine ⟨(h.bel.alloc (by omega) o).grown hg (by simp; omega) fun k e => by have := hr k e; omega, ?_⟩
  rw [hg.block w0.heap.size (by simp; omega) (fun e => by have := hr _ e.symm; omega)]
  exact Below.heap_alloc w o _ hB

set_option maxRecDepth 10000 in
set_option maxHeartbeats 1000000 in
theorem seg0_end (s : ByteArray) (w0 : World) (R : Lx.Out) (k : Nat) (acc : List Lx.Tk) (f x fst : Nat) (u1 u2 u3 u4 en gd list c0 c1 c2 c3 : Value) (u12 u13 u14 u15 u16 u17 u18 u19 u20 u21 u22 u23 u24 u25 u26 u27 u28 u29 u30 u31 u32 u33 u34 u35 u36 u37 u38 u39 u40 u41 u42 u43 u44 u45 u46 u47 u48 u49 u50 u51 u52 u53 u54 u55 u56 u57 u58 u59 u60 u61 u62 u63 u64 u65 u66 u67 u68 u69 u70 u71 u72 u73 u74 u75 u76 u77 u78 u79 u80 u81 u82 u83 u84 u85 u86 u87 u88 u89 u90 u91 u92 u93 u94 u95 u96 u97 u98 u99 u100 u101 u102 u103 u104 u105 u106 u107 u108 u109 u110 u111 u112 u113 u114 u115 u116 u117 u118 u119 u120 u121 u122 u123 u124 u125 u126 u127 u128 u129 u130 u131 u132 u133 u134 u135 u136 u137 u138 u139 u140 u141 u142 : Value) (w : World) (Q : Exit → Act → World → Prop) (m : Nat)
   (hI : Inv s w0 R k k acc f x fst list w) (hB : Box w w0.heap.size c0 c1 c2 c3) (hs : s.size ≤ 6000) (hk : k = s.size) (hQ : ∀ a w, Ret s w0 R a w → Q .ret a w) :
   ∃ r, findLabel splitBody 0 = some (Code.skip.seq r) ∧ r.wp Tryz.prog (After s w0 R m Q) { tmps := #[.string s, u1, u2, u3, u4, .complex .f64 (Fp.rung x) one64, .int .i64 (fst : Int), .int .i64 (k : Int), en, gd, list, boxAt w0, u12, u13, u14, u15, u16, u17, u18, u19, u20, u21, u22, u23, u24, u25, u26, u27, u28, u29, u30, u31, u32, u33, u34, u35, u36, u37, u38, u39, u40, u41, u42, u43, u44, u45, u46, u47, u48, u49, u50, u51, u52, u53, u54, u55, u56, u57, u58, u59, u60, u61, u62, u63, u64, u65, u66, u67, u68, u69, u70, u71, u72, u73, u74, u75, u76, u77, u78, u79, u80, u81, u82, u83, u84, u85, u86, u87, u88, u89, u90, u91, u92, u93, u94, u95, u96, u97, u98, u99, u100, u101, u102, u103, u104, u105, u106, u107, u108, u109, u110, u111, u112, u113, u114, u115, u116, u117, u118, u119, u120, u121, u122, u123, u124, u125, u126, u127, u128, u129, u130, u131, u132, u133, u134, u135, u136, u137, u138, u139, u140, u141, u142], defers := [] } w := by
  have hA : ∀ w, _ := place_sum s k x fst hs hI.ps hI.fk hI.spot
  have hkb : ((k : Int) == (s.size : Int)) = true := by rw [hk]; simp
  have hf' : fst ≤ k := hI.fk
  have hks : k ≤ s.size := hI.ps
  have hcb : acc.length ≤ 6000 := by have := hI.acl; omega
  have hBl := hB.lt
  obtain ⟨b0, b1, b2, b3, z0, z1, z2, z3⟩ := id hB
  have HI : Hid (Inv s w0 R k k acc f x fst list w) := hI
  have HQ : Hid (∀ a w, Ret s w0 R a w → Q .ret a w) := hQ
  have HK : Hid (k = s.size) := hk
  clear hI hQ hk hB
  obtain ⟨px, hpx⟩ : ∃ px, lineW s k = px := ⟨_, rfl⟩
  obtain ⟨py, hpy⟩ : ∃ py, colW s k = py := ⟨_, rfl⟩
  rw [hpx, hpy] at hA
  have HX : Hid (lineW s k = px) := hpx
  have HY : Hid (colW s k = py) := hpy
  clear hpx hpy
  obtain ⟨i0, hi, hz0, hz1, hz2⟩ := tok_info
  have Hi : Hid (_ = _) := hi
  have Hz0 : Hid (_ = _) := hz0
  have Hz1 : Hid (_ = _) := hz1
  have Hz2 : Hid (_ = _) := hz2
  clear hi hz0 hz1 hz2
  refine ⟨_, rfl, ?_⟩
  go_wp2_with (at_builtin; refine wpList_append_lies _ (by rfl) _ _ _ (by rfl) (w0.heap.size + 1) 68 i0 _ 4 48 Tryz.underlying60 Hi.out Hz0.out Hz1.out Hz2.out rfl (by decide) list acc.length (cellsOf s acc) (by rfl) ?c0 ⟨_, 0, none⟩ 1 1 [.int .i64 4, .string ⟨#[]⟩, .int .i64 0, .complex .f64 px py] (by rfl) rfl ?c1 ?c2 (by omega) ?c3 (by omega) ?c5 _ rfl ?_)
  case c0 => exact (((((HI.out.set 0 _).set 1 _).set 2 _).set 3 _).set 0 _).own.alloc _
  case c1 => exact news_of _ _ (by simp) _ _ _ _ _
  case c2 => intro u hu; simp at hu; rcases hu with rfl | rfl | rfl | rfl <;> rfl
  case c3 => unfold maxLen; omega
  case c5 => simp; omega
  intro g cap w1 hown hgrow hat hlt
  have hb := behind_append (((((HI.out.set 0 _).set 1 _).set 2 _).set 3 _).set 0 _) (by simpa using hBl) hgrow
  have HO : Hid (World.ownsRow _ _ _ _ _ _ _) := hown
  have HBl : Hid (Below _ _ _) := hb.1
  clear hown hgrow hat hlt hb
  go_wp2
  exact HQ.out _ _ ⟨rfl, rfl, by
    rw [told_end HI.out HK.out]
    exact ⟨rfl, rfl, own_lower (by rw [cellsOf_snoc, List.length_append, show tkCells s ⟨4, k, [], 0⟩ = [.int .i64 4, .string ⟨#[]⟩, .int .i64 0, .complex .f64 px py] by rw [← HX.out, ← HY.out]; rfl]; exact HO.out) (Nat.le_succ _), HBl.out⟩⟩
end Go.Proofs.YtkobdephobaopaaGreatDoor

namespace Go.Proofs.YtkobdephobaopaaGreatDoor
open Go.RowKit

section
variable {s : ByteArray} {w0 : World} {R : Lx.Out} {a : Act} {w : World} {m : Nat} {k : Nat} {acc : List Lx.Tk} {f x fst : Nat} {en gd list c0 c1 c2 c3 : Value}

theorem land0 (hS : Slots a s (.complex .f64 (Fp.rung x) one64) (.int .i64 (fst : Int)) (.int .i64 (k : Int)) en gd list (boxAt w0)) (hI : Inv s w0 R k k acc f x fst list w) (hB : Box w w0.heap.size c0 c1 c2 c3)
    (hm : (s.size - k) * 20000 + 15000 < m) : J s w0 R 0 a w ∧ mu' s 0 a w < m :=
  ⟨⟨k, acc, f, x, fst, en, gd, list, c0, c1, c2, c3, hS, hI, hB⟩, by rw [hS.mu0]; exact hm⟩

theorem land1 (hS : Slots a s (.complex .f64 (Fp.rung x) one64) (.int .i64 (fst : Int)) (.int .i64 (k : Int)) en gd list (boxAt w0)) (hI : Inv s w0 R k (Lx.span Lx.noFeed s.data.toList k) acc f x fst list w) (hB : Box w w0.heap.size c0 c1 c2 c3)
    (hm : (s.size - k) * 20000 + (if stopAt s k then 16000 else 14000) < m) : J s w0 R 1 a w ∧ mu' s 1 a w < m :=
  ⟨⟨k, acc, f, x, fst, en, gd, list, c0, c1, c2, c3, hS, hI, hB⟩, by rw [hS.mu1]; exact hm⟩

theorem land2 {e : Nat} (hS : Slots a s (.complex .f64 (Fp.rung x) one64) (.int .i64 (fst : Int)) (.int .i64 (k : Int)) (.int .i64 (e : Int)) gd list (boxAt w0)) (hI : Inv s w0 R k k acc (f + 1) x fst list w) (hB : Box w w0.heap.size (.int .i64 0) (.string ⟨#[]⟩) (.int .i64 0) (.complex .f64 (lineW s k) (colW s k)))
    (h1 : k ≤ e) (h2 : e < s.size) (h3 : ∃ h : k < s.size, Lx.lower s[k] = true) (h4 : Lx.span Lx.goes s.data.toList (k + 1) = Lx.span Lx.goes s.data.toList (e + 1))
    (hm : (s.size - k) * 20000 + (s.size - e) + 5 < m) : J s w0 R 2 a w ∧ mu' s 2 a w < m :=
  ⟨⟨k, e, acc, f, x, fst, gd, list, hS, hI, hB, h1, h2, h3, h4⟩, by rw [hS.muE]; exact hm⟩

theorem land3 {e : Nat} (hS : Slots a s (.complex .f64 (Fp.rung x) one64) (.int .i64 (fst : Int)) (.int .i64 (k : Int)) (.int .i64 (e : Int)) gd list (boxAt w0)) (hI : Inv s w0 R k k acc (f + 1) x fst list w) (hB : Box w w0.heap.size (.int .i64 0) (.string ⟨#[]⟩) (.int .i64 0) (.complex .f64 (lineW s k) (colW s k)))
    (h1 : k ≤ e) (h2 : e < s.size) (h3 : ∃ h : k < s.size, Lx.lower s[k] = false ∧ Lx.digit s[k] = true) (h4 : Lx.span Lx.digit s.data.toList (k + 1) = Lx.span Lx.digit s.data.toList (e + 1))
    (hm : (s.size - k) * 20000 + (s.size - e) + 5 < m) : J s w0 R 3 a w ∧ mu' s 3 a w < m :=
  ⟨⟨k, e, acc, f, x, fst, gd, list, hS, hI, hB, h1, h2, h3, h4⟩, by rw [hS.muE]; exact hm⟩

theorem land4 (hS : Slots a s (.complex .f64 (Fp.rung x) one64) (.int .i64 (fst : Int)) (.int .i64 (k : Int)) (.int .i64 (k : Int)) gd list (boxAt w0)) (hI : Inv s w0 R k k acc (f + 1) x fst list w) (hB : Box w w0.heap.size (.int .i64 0) (.string ⟨#[]⟩) (.int .i64 0) (.complex .f64 (lineW s k) (colW s k)))
    (h3 : ∃ h : k < s.size, Lx.lower s[k] = false ∧ Lx.digit s[k] = false ∧ Lx.blank s[k] = false ∧ s[k] ≠ 35)
    (hm : (s.size - k) * 20000 + 4 < m) : J s w0 R 4 a w ∧ mu' s 4 a w < m :=
  ⟨⟨k, acc, f, x, fst, gd, list, hS, hI, hB, h3⟩, by rw [hS.muE]; exact hm⟩

theorem land5 {e kd n : Nat} {b : Bool} (hS : Slots a s (.complex .f64 (Fp.rung x) one64) (.int .i64 (fst : Int)) (.int .i64 (k : Int)) (.int .i64 (e : Int)) (.bool b) list (boxAt w0)) (hI : Inv s w0 R k k acc (f + 1) x fst list w) (hB : Box w w0.heap.size (.int .i64 (kd : Int)) (.string ⟨#[]⟩) (.int .i64 (n : Int)) (.complex .f64 (lineW s k) (colW s k)))
    (h3 : ∃ h : k < s.size, Lx.blank s[k] = false ∧ s[k] ≠ 35) (h4 : k ≤ e) (h5 : e ≤ s.size) (h6 : b = true → k < e ∧ Lx.one (s.data.toList.drop k) = some (kd, e - k, n)) (h7 : b = false → Lx.one (s.data.toList.drop k) = none)
    (hm : (s.size - k) * 20000 + 3 < m) : J s w0 R 5 a w ∧ mu' s 5 a w < m :=
  ⟨⟨k, e, kd, n, b, acc, f, x, fst, list, hS, hI, hB, h3, h4, h5, h6, h7⟩, by rw [hS.muE]; exact hm⟩

theorem Inv.fuel1 (h : Inv s w0 R k k acc f x fst list w) (hk : k < s.size) : ∃ g, f = g + 1 := ⟨f - 1, by have := h.fuel; omega⟩

/-- Over a blank. -/
theorem Inv.blank (h : Inv s w0 R k k acc f x fst list w) (hk : k < s.size) (hb : Lx.blank s[k] = true) (hn : s[k] ≠ 10) : ∃ g, Inv s w0 R (k + 1) (k + 1) acc g x fst list w := by
  obtain ⟨g, rfl⟩ := h.fuel1 hk
  have hl : k < s.data.toList.length := by simpa using hk
  have e := byte_at s k hk
  have hf := h.fuel
  have hfk := h.fk
  have ha := h.acl
  refine ⟨g, Nat.le_refl _, hk, by omega, ?_, by omega, ?_, h.own, h.bel, by omega⟩
  · rw [← Lx.step_blank s.data.toList g k acc hl (by rw [e]; exact hb)]; exact h.run
  · rw [Sp.spot_succ _ k hl, h.spot, e, Sp.on, if_neg hn]
    simp only [Prod.mk.injEq, true_and]
    omega

/-- Over a line feed. -/
theorem Inv.feed (h : Inv s w0 R k k acc f x fst list w) (hk : k < s.size) (hn : s[k] = 10) : ∃ g, Inv s w0 R (k + 1) (k + 1) acc g (x + 1) (k + 1) list w := by
  obtain ⟨g, rfl⟩ := h.fuel1 hk
  have hl : k < s.data.toList.length := by simpa using hk
  have e := byte_at s k hk
  have hf := h.fuel
  have ha := h.acl
  refine ⟨g, Nat.le_refl _, hk, by omega, ?_, Nat.le_refl _, ?_, h.own, h.bel, by omega⟩
  · rw [← Lx.step_blank s.data.toList g k acc hl (by rw [e, hn]; decide)]; exact h.run
  · rw [Sp.spot_succ _ k hl, h.spot, e, Sp.on, if_pos hn]
    simp only [Nat.sub_self, Nat.zero_add]

/-- Into a note. -/
theorem Inv.note (h : Inv s w0 R k k acc f x fst list w) (hk : k < s.size) (hn : s[k] = 35) : ∃ g, Inv s w0 R k (Lx.span Lx.noFeed s.data.toList k) acc g x fst list w := by
  obtain ⟨g, rfl⟩ := h.fuel1 hk
  have hl : k < s.data.toList.length := by simpa using hk
  have e := byte_at s k hk
  have e2 : s.data.toList[k] = 35 := e.trans hn
  have hf := h.fuel
  have ha := h.acl
  have hsp := Lx.span_yes Lx.noFeed s.data.toList k hl (by rw [e2]; decide)
  have h1 := Lx.le_span Lx.noFeed s.data.toList (k + 1)
  have h2 := Lx.span_le Lx.noFeed s.data.toList (k + 1) (by omega)
  have hll : s.data.toList.length = s.size := by simp
  refine ⟨g, by omega, by omega, by omega, ?_, h.fk, h.spot, h.own, h.bel, by omega⟩
  rw [hsp, ← Lx.step_note s.data.toList g k acc hl e2]; exact h.run

theorem stop_no (hk : k < s.size) (hn : s[k] ≠ 10) : stopAt s k = false := by
  have hl : k < s.data.toList.length := by simpa using hk
  unfold stopAt
  rw [List.getElem?_eq_getElem hl, byte_at s k hk]
  simpa using hn
theorem stop_yes (hk : k < s.size) (hn : s[k] = 10) : stopAt s k = true := by
  have hl : k < s.data.toList.length := by simpa using hk
  unfold stopAt
  rw [List.getElem?_eq_getElem hl, byte_at s k hk]
  simpa using hn
theorem stop_end (hk : k = s.size) : stopAt s k = true := by
  have hl : ¬ k < s.data.toList.length := by simp; omega
  unfold stopAt
  rw [List.getElem?_eq_none (by omega)]

/-- A byte of a note. -/
theorem Inv.noteOn (h : Inv s w0 R k (Lx.span Lx.noFeed s.data.toList k) acc f x fst list w) (hk : k < s.size) (hn : s[k] ≠ 10) : Inv s w0 R (k + 1) (Lx.span Lx.noFeed s.data.toList (k + 1)) acc f x fst list w := by
  have hl : k < s.data.toList.length := by simpa using hk
  have e := byte_at s k hk
  have hsp := Lx.span_yes Lx.noFeed s.data.toList k hl (by rw [e]; simpa [Lx.noFeed] using hn)
  have h1 := Lx.le_span Lx.noFeed s.data.toList (k + 1)
  rw [hsp] at h
  have hfk := h.fk
  refine { h with kp := h1, fk := by omega, spot := ?_ }
  rw [Sp.spot_succ _ k hl, h.spot, e, Sp.on, if_neg hn]
  simp only [Prod.mk.injEq, true_and]
  omega

theorem Inv.noteEnd (h : Inv s w0 R k (Lx.span Lx.noFeed s.data.toList k) acc f x fst list w) (hk : k = s.size ∨ ∃ h : k < s.size, s[k] = 10) : Inv s w0 R k k acc f x fst list w := by
  have e : Lx.span Lx.noFeed s.data.toList k = k := by
    rcases hk with rfl | ⟨hk, hn⟩
    · have hll : s.data.toList.length = s.size := by simp
      rw [← hll]; exact Lx.span_end _ _
    · have hl : k < s.data.toList.length := by simpa using hk
      exact Lx.span_no _ _ k hl (by rw [byte_at s k hk, hn]; decide)
  rwa [e] at h

end
end Go.Proofs.YtkobdephobaopaaGreatDoor

namespace Go.Proofs.YtkobdephobaopaaGreatDoor
open Go.RowKit
attribute [local go_sem] run_store_complex

/-- The token that is begun at byte k. -/
theorem Box.begin {s : ByteArray} {w : World} {B k : Nat} {c0 c1 c2 c3 : Value} {px py : Nat} (h : Box w B c0 c1 c2 c3) (hx : lineW s k = px) (hy : colW s k = py) :
    Box ((((w.setCell ⟨B, 0, none⟩ (.int .i64 0)).setCell ⟨B, 1, none⟩ (.string ⟨#[]⟩)).setCell ⟨B, 2, none⟩ (.int .i64 0)).setCell ⟨B, 3, none⟩ (.complex .f64 px py)) B (.int .i64 0) (.string ⟨#[]⟩) (.int .i64 0) (.complex .f64 (lineW s k) (colW s k)) := by
  subst hx; subst hy
  exact (((h.set0 _).set1 _).set2 _).set3 _

theorem Inv.begin {s : ByteArray} {w0 : World} {R : Lx.Out} {k p : Nat} {acc : List Lx.Tk} {f x fst : Nat} {list : Value} {w : World} (h : Inv s w0 R k p acc f x fst list w) (v0 v1 v2 v3 : Value) :
    Inv s w0 R k p acc f x fst list ((((w.setCell ⟨w0.heap.size, 0, none⟩ v0).setCell ⟨w0.heap.size, 1, none⟩ v1).setCell ⟨w0.heap.size, 2, none⟩ v2).setCell ⟨w0.heap.size, 3, none⟩ v3) := (((h.set 0 _).set 1 _).set 2 _).set 3 _

set_option maxRecDepth 10000 in
set_option maxHeartbeats 1000000 in
theorem seg0_note (s : ByteArray) (w0 : World) (R : Lx.Out) (k : Nat) (acc : List Lx.Tk) (f x fst : Nat) (u1 u2 u3 u4 en gd list c0 c1 c2 c3 : Value) (u12 u13 u14 u15 u16 u17 u18 u19 u20 u21 u22 u23 u24 u25 u26 u27 u28 u29 u30 u31 u32 u33 u34 u35 u36 u37 u38 u39 u40 u41 u42 u43 u44 u45 u46 u47 u48 u49 u50 u51 u52 u53 u54 u55 u56 u57 u58 u59 u60 u61 u62 u63 u64 u65 u66 u67 u68 u69 u70 u71 u72 u73 u74 u75 u76 u77 u78 u79 u80 u81 u82 u83 u84 u85 u86 u87 u88 u89 u90 u91 u92 u93 u94 u95 u96 u97 u98 u99 u100 u101 u102 u103 u104 u105 u106 u107 u108 u109 u110 u111 u112 u113 u114 u115 u116 u117 u118 u119 u120 u121 u122 u123 u124 u125 u126 u127 u128 u129 u130 u131 u132 u133 u134 u135 u136 u137 u138 u139 u140 u141 u142 : Value) (w : World) (Q : Exit → Act → World → Prop) (m : Nat)
   (hI : Inv s w0 R k k acc f x fst list w) (hB : Box w w0.heap.size c0 c1 c2 c3) (hs : s.size ≤ 6000) (hk : k < s.size) (hm : m = (s.size - k) * 20000 + 15000) (hc : s[k] = 35) :
   ∃ r, findLabel splitBody 0 = some (Code.skip.seq r) ∧ r.wp Tryz.prog (After s w0 R m Q) { tmps := #[.string s, u1, u2, u3, u4, .complex .f64 (Fp.rung x) one64, .int .i64 (fst : Int), .int .i64 (k : Int), en, gd, list, boxAt w0, u12, u13, u14, u15, u16, u17, u18, u19, u20, u21, u22, u23, u24, u25, u26, u27, u28, u29, u30, u31, u32, u33, u34, u35, u36, u37, u38, u39, u40, u41, u42, u43, u44, u45, u46, u47, u48, u49, u50, u51, u52, u53, u54, u55, u56, u57, u58, u59, u60, u61, u62, u63, u64, u65, u66, u67, u68, u69, u70, u71, u72, u73, u74, u75, u76, u77, u78, u79, u80, u81, u82, u83, u84, u85, u86, u87, u88, u89, u90, u91, u92, u93, u94, u95, u96, u97, u98, u99, u100, u101, u102, u103, u104, u105, u106, u107, u108, u109, u110, u111, u112, u113, u114, u115, u116, u117, u118, u119, u120, u121, u122, u123, u124, u125, u126, u127, u128, u129, u130, u131, u132, u133, u134, u135, u136, u137, u138, u139, u140, u141, u142], defers := [] } w := by
  have hA : ∀ w, _ := place_sum s k x fst hs hI.ps hI.fk hI.spot
  have hkb : ((k : Int) == (s.size : Int)) = false := by rw [beq_eq_false_iff_ne]; omega
  have hki : (k : Int) < (s.size : Int) := by omega
  have hf' : fst ≤ k := hI.fk
  have hxs : x ≤ 10000 := by
    have h1 := Sp.spot_le (s.data.toList.take k)
    have h2 : (s.data.toList.take k).length ≤ k := List.length_take_le _ _
    rw [hI.spot] at h1
    simp only at h1
    omega
  have e35 : ((s[k].toNat : Int) == 35) = true := by rw [hc]; rfl
  obtain ⟨g, hN⟩ := hI.note hk hc
  have HN : Hid (Inv _ _ _ _ _ _ _ _ _ _ _) := hN
  have HS : Hid (stopAt s k = false) := stop_no hk (by rw [hc]; decide)
  clear hN hc
  obtain ⟨b0, b1, b2, b3, z0, z1, z2, z3⟩ := id hB
  have HI : Hid (Inv s w0 R k k acc _ x fst list w) := hI
  have HB : Hid (Box w w0.heap.size c0 c1 c2 c3) := hB
  have HM : Hid (m = (s.size - k) * 20000 + 15000) := hm
  clear hI hB hm
  obtain ⟨px, hpx⟩ : ∃ px, lineW s k = px := ⟨_, rfl⟩
  obtain ⟨py, hpy⟩ : ∃ py, colW s k = py := ⟨_, rfl⟩
  rw [hpx, hpy] at hA
  have HX : Hid (lineW s k = px) := hpx
  have HY : Hid (colW s k = py) := hpy
  clear hpx hpy
  refine ⟨_, rfl, ?_⟩
  go_wp2
  go_step3
  exact land1 (k := k) ⟨rfl, rfl, rfl, rfl, rfl, rfl, rfl, rfl, rfl, rfl⟩ (HN.out.begin _ _ _ _) (HB.out.begin HX.out HY.out) (by rw [HM.out, HS.out]; simp only [Bool.false_eq_true, if_false]; omega)


set_option maxRecDepth 10000 in
set_option maxHeartbeats 1000000 in
theorem seg0_feed (s : ByteArray) (w0 : World) (R : Lx.Out) (k : Nat) (acc : List Lx.Tk) (f x fst : Nat) (u1 u2 u3 u4 en gd list c0 c1 c2 c3 : Value) (u12 u13 u14 u15 u16 u17 u18 u19 u20 u21 u22 u23 u24 u25 u26 u27 u28 u29 u30 u31 u32 u33 u34 u35 u36 u37 u38 u39 u40 u41 u42 u43 u44 u45 u46 u47 u48 u49 u50 u51 u52 u53 u54 u55 u56 u57 u58 u59 u60 u61 u62 u63 u64 u65 u66 u67 u68 u69 u70 u71 u72 u73 u74 u75 u76 u77 u78 u79 u80 u81 u82 u83 u84 u85 u86 u87 u88 u89 u90 u91 u92 u93 u94 u95 u96 u97 u98 u99 u100 u101 u102 u103 u104 u105 u106 u107 u108 u109 u110 u111 u112 u113 u114 u115 u116 u117 u118 u119 u120 u121 u122 u123 u124 u125 u126 u127 u128 u129 u130 u131 u132 u133 u134 u135 u136 u137 u138 u139 u140 u141 u142 : Value) (w : World) (Q : Exit → Act → World → Prop) (m : Nat)
   (hI : Inv s w0 R k k acc f x fst list w) (hB : Box w w0.heap.size c0 c1 c2 c3) (hs : s.size ≤ 6000) (hk : k < s.size) (hm : m = (s.size - k) * 20000 + 15000) (hc : s[k] = 10) :
   ∃ r, findLabel splitBody 0 = some (Code.skip.seq r) ∧ r.wp Tryz.prog (After s w0 R m Q) { tmps := #[.string s, u1, u2, u3, u4, .complex .f64 (Fp.rung x) one64, .int .i64 (fst : Int), .int .i64 (k : Int), en, gd, list, boxAt w0, u12, u13, u14, u15, u16, u17, u18, u19, u20, u21, u22, u23, u24, u25, u26, u27, u28, u29, u30, u31, u32, u33, u34, u35, u36, u37, u38, u39, u40, u41, u42, u43, u44, u45, u46, u47, u48, u49, u50, u51, u52, u53, u54, u55, u56, u57, u58, u59, u60, u61, u62, u63, u64, u65, u66, u67, u68, u69, u70, u71, u72, u73, u74, u75, u76, u77, u78, u79, u80, u81, u82, u83, u84, u85, u86, u87, u88, u89, u90, u91, u92, u93, u94, u95, u96, u97, u98, u99, u100, u101, u102, u103, u104, u105, u106, u107, u108, u109, u110, u111, u112, u113, u114, u115, u116, u117, u118, u119, u120, u121, u122, u123, u124, u125, u126, u127, u128, u129, u130, u131, u132, u133, u134, u135, u136, u137, u138, u139, u140, u141, u142], defers := [] } w := by
  have hA : ∀ w, _ := place_sum s k x fst hs hI.ps hI.fk hI.spot
  have hkb : ((k : Int) == (s.size : Int)) = false := by rw [beq_eq_false_iff_ne]; omega
  have hki : (k : Int) < (s.size : Int) := by omega
  have hf' : fst ≤ k := hI.fk
  have hxs : x ≤ 10000 := by
    have h1 := Sp.spot_le (s.data.toList.take k)
    have h2 : (s.data.toList.take k).length ≤ k := List.length_take_le _ _
    rw [hI.spot] at h1
    simp only at h1
    omega
  have e35 : ((s[k].toNat : Int) == 35) = false := by rw [hc]; rfl
  have e10 : ((s[k].toNat : Int) == 10) = true := by rw [hc]; rfl
  obtain ⟨g, hN⟩ := hI.feed hk hc
  have HN : Hid (Inv _ _ _ _ _ _ _ _ _ _ _) := hN
  have hL : ∀ w, _ := line_sum x hxs
  clear hN hc
  obtain ⟨b0, b1, b2, b3, z0, z1, z2, z3⟩ := id hB
  have HI : Hid (Inv s w0 R k k acc _ x fst list w) := hI
  have HB : Hid (Box w w0.heap.size c0 c1 c2 c3) := hB
  have HM : Hid (m = (s.size - k) * 20000 + 15000) := hm
  clear hI hB hm
  obtain ⟨px, hpx⟩ : ∃ px, lineW s k = px := ⟨_, rfl⟩
  obtain ⟨py, hpy⟩ : ∃ py, colW s k = py := ⟨_, rfl⟩
  rw [hpx, hpy] at hA
  have HX : Hid (lineW s k = px) := hpx
  have HY : Hid (colW s k = py) := hpy
  clear hpx hpy
  refine ⟨_, rfl, ?_⟩
  go_wp2
  go_step3
  exact land0 (k := k + 1) ⟨rfl, rfl, rfl, rfl, rfl, rfl, rfl, rfl, rfl, rfl⟩ (HN.out.begin _ _ _ _) (HB.out.begin HX.out HY.out) (by rw [HM.out]; omega)


set_option maxRecDepth 10000 in
set_option maxHeartbeats 1000000 in
theorem seg0_blank (s : ByteArray) (w0 : World) (R : Lx.Out) (k : Nat) (acc : List Lx.Tk) (f x fst : Nat) (u1 u2 u3 u4 en gd list c0 c1 c2 c3 : Value) (u12 u13 u14 u15 u16 u17 u18 u19 u20 u21 u22 u23 u24 u25 u26 u27 u28 u29 u30 u31 u32 u33 u34 u35 u36 u37 u38 u39 u40 u41 u42 u43 u44 u45 u46 u47 u48 u49 u50 u51 u52 u53 u54 u55 u56 u57 u58 u59 u60 u61 u62 u63 u64 u65 u66 u67 u68 u69 u70 u71 u72 u73 u74 u75 u76 u77 u78 u79 u80 u81 u82 u83 u84 u85 u86 u87 u88 u89 u90 u91 u92 u93 u94 u95 u96 u97 u98 u99 u100 u101 u102 u103 u104 u105 u106 u107 u108 u109 u110 u111 u112 u113 u114 u115 u116 u117 u118 u119 u120 u121 u122 u123 u124 u125 u126 u127 u128 u129 u130 u131 u132 u133 u134 u135 u136 u137 u138 u139 u140 u141 u142 : Value) (w : World) (Q : Exit → Act → World → Prop) (m : Nat)
   (hI : Inv s w0 R k k acc f x fst list w) (hB : Box w w0.heap.size c0 c1 c2 c3) (hs : s.size ≤ 6000) (hk : k < s.size) (hm : m = (s.size - k) * 20000 + 15000) (hc : s[k] = 32) :
   ∃ r, findLabel splitBody 0 = some (Code.skip.seq r) ∧ r.wp Tryz.prog (After s w0 R m Q) { tmps := #[.string s, u1, u2, u3, u4, .complex .f64 (Fp.rung x) one64, .int .i64 (fst : Int), .int .i64 (k : Int), en, gd, list, boxAt w0, u12, u13, u14, u15, u16, u17, u18, u19, u20, u21, u22, u23, u24, u25, u26, u27, u28, u29, u30, u31, u32, u33, u34, u35, u36, u37, u38, u39, u40, u41, u42, u43, u44, u45, u46, u47, u48, u49, u50, u51, u52, u53, u54, u55, u56, u57, u58, u59, u60, u61, u62, u63, u64, u65, u66, u67, u68, u69, u70, u71, u72, u73, u74, u75, u76, u77, u78, u79, u80, u81, u82, u83, u84, u85, u86, u87, u88, u89, u90, u91, u92, u93, u94, u95, u96, u97, u98, u99, u100, u101, u102, u103, u104, u105, u106, u107, u108, u109, u110, u111, u112, u113, u114, u115, u116, u117, u118, u119, u120, u121, u122, u123, u124, u125, u126, u127, u128, u129, u130, u131, u132, u133, u134, u135, u136, u137, u138, u139, u140, u141, u142], defers := [] } w := by
  have hA : ∀ w, _ := place_sum s k x fst hs hI.ps hI.fk hI.spot
  have hkb : ((k : Int) == (s.size : Int)) = false := by rw [beq_eq_false_iff_ne]; omega
  have hki : (k : Int) < (s.size : Int) := by omega
  have hf' : fst ≤ k := hI.fk
  have hxs : x ≤ 10000 := by
    have h1 := Sp.spot_le (s.data.toList.take k)
    have h2 : (s.data.toList.take k).length ≤ k := List.length_take_le _ _
    rw [hI.spot] at h1
    simp only at h1
    omega
  have e35 : ((s[k].toNat : Int) == 35) = false := by rw [hc]; rfl
  have e10 : ((s[k].toNat : Int) == 10) = false := by rw [hc]; rfl
  have e32 : ((s[k].toNat : Int) == 32) = true := by rw [hc]; rfl
  have e9 : ((s[k].toNat : Int) == 9) = false := by rw [hc]; rfl
  obtain ⟨g, hN⟩ := hI.blank hk (by rw [hc]; decide) (by rw [hc]; decide)
  have HN : Hid (Inv _ _ _ _ _ _ _ _ _ _ _) := hN
  clear hN hc
  obtain ⟨b0, b1, b2, b3, z0, z1, z2, z3⟩ := id hB
  have HI : Hid (Inv s w0 R k k acc _ x fst list w) := hI
  have HB : Hid (Box w w0.heap.size c0 c1 c2 c3) := hB
  have HM : Hid (m = (s.size - k) * 20000 + 15000) := hm
  clear hI hB hm
  obtain ⟨px, hpx⟩ : ∃ px, lineW s k = px := ⟨_, rfl⟩
  obtain ⟨py, hpy⟩ : ∃ py, colW s k = py := ⟨_, rfl⟩
  rw [hpx, hpy] at hA
  have HX : Hid (lineW s k = px) := hpx
  have HY : Hid (colW s k = py) := hpy
  clear hpx hpy
  refine ⟨_, rfl, ?_⟩
  go_wp2
  go_step3
  exact land0 (k := k + 1) ⟨rfl, rfl, rfl, rfl, rfl, rfl, rfl, rfl, rfl, rfl⟩ (HN.out.begin _ _ _ _) (HB.out.begin HX.out HY.out) (by rw [HM.out]; omega)


set_option maxRecDepth 10000 in
set_option maxHeartbeats 1000000 in
theorem seg0_tab (s : ByteArray) (w0 : World) (R : Lx.Out) (k : Nat) (acc : List Lx.Tk) (f x fst : Nat) (u1 u2 u3 u4 en gd list c0 c1 c2 c3 : Value) (u12 u13 u14 u15 u16 u17 u18 u19 u20 u21 u22 u23 u24 u25 u26 u27 u28 u29 u30 u31 u32 u33 u34 u35 u36 u37 u38 u39 u40 u41 u42 u43 u44 u45 u46 u47 u48 u49 u50 u51 u52 u53 u54 u55 u56 u57 u58 u59 u60 u61 u62 u63 u64 u65 u66 u67 u68 u69 u70 u71 u72 u73 u74 u75 u76 u77 u78 u79 u80 u81 u82 u83 u84 u85 u86 u87 u88 u89 u90 u91 u92 u93 u94 u95 u96 u97 u98 u99 u100 u101 u102 u103 u104 u105 u106 u107 u108 u109 u110 u111 u112 u113 u114 u115 u116 u117 u118 u119 u120 u121 u122 u123 u124 u125 u126 u127 u128 u129 u130 u131 u132 u133 u134 u135 u136 u137 u138 u139 u140 u141 u142 : Value) (w : World) (Q : Exit → Act → World → Prop) (m : Nat)
   (hI : Inv s w0 R k k acc f x fst list w) (hB : Box w w0.heap.size c0 c1 c2 c3) (hs : s.size ≤ 6000) (hk : k < s.size) (hm : m = (s.size - k) * 20000 + 15000) (hc : s[k] = 9) :
   ∃ r, findLabel splitBody 0 = some (Code.skip.seq r) ∧ r.wp Tryz.prog (After s w0 R m Q) { tmps := #[.string s, u1, u2, u3, u4, .complex .f64 (Fp.rung x) one64, .int .i64 (fst : Int), .int .i64 (k : Int), en, gd, list, boxAt w0, u12, u13, u14, u15, u16, u17, u18, u19, u20, u21, u22, u23, u24, u25, u26, u27, u28, u29, u30, u31, u32, u33, u34, u35, u36, u37, u38, u39, u40, u41, u42, u43, u44, u45, u46, u47, u48, u49, u50, u51, u52, u53, u54, u55, u56, u57, u58, u59, u60, u61, u62, u63, u64, u65, u66, u67, u68, u69, u70, u71, u72, u73, u74, u75, u76, u77, u78, u79, u80, u81, u82, u83, u84, u85, u86, u87, u88, u89, u90, u91, u92, u93, u94, u95, u96, u97, u98, u99, u100, u101, u102, u103, u104, u105, u106, u107, u108, u109, u110, u111, u112, u113, u114, u115, u116, u117, u118, u119, u120, u121, u122, u123, u124, u125, u126, u127, u128, u129, u130, u131, u132, u133, u134, u135, u136, u137, u138, u139, u140, u141, u142], defers := [] } w := by
  have hA : ∀ w, _ := place_sum s k x fst hs hI.ps hI.fk hI.spot
  have hkb : ((k : Int) == (s.size : Int)) = false := by rw [beq_eq_false_iff_ne]; omega
  have hki : (k : Int) < (s.size : Int) := by omega
  have hf' : fst ≤ k := hI.fk
  have hxs : x ≤ 10000 := by
    have h1 := Sp.spot_le (s.data.toList.take k)
    have h2 : (s.data.toList.take k).length ≤ k := List.length_take_le _ _
    rw [hI.spot] at h1
    simp only at h1
    omega
  have e35 : ((s[k].toNat : Int) == 35) = false := by rw [hc]; rfl
  have e10 : ((s[k].toNat : Int) == 10) = false := by rw [hc]; rfl
  have e32 : ((s[k].toNat : Int) == 32) = false := by rw [hc]; rfl
  have e9 : ((s[k].toNat : Int) == 9) = true := by rw [hc]; rfl
  obtain ⟨g, hN⟩ := hI.blank hk (by rw [hc]; decide) (by rw [hc]; decide)
  have HN : Hid (Inv _ _ _ _ _ _ _ _ _ _ _) := hN
  clear hN hc
  obtain ⟨b0, b1, b2, b3, z0, z1, z2, z3⟩ := id hB
  have HI : Hid (Inv s w0 R k k acc _ x fst list w) := hI
  have HB : Hid (Box w w0.heap.size c0 c1 c2 c3) := hB
  have HM : Hid (m = (s.size - k) * 20000 + 15000) := hm
  clear hI hB hm
  obtain ⟨px, hpx⟩ : ∃ px, lineW s k = px := ⟨_, rfl⟩
  obtain ⟨py, hpy⟩ : ∃ py, colW s k = py := ⟨_, rfl⟩
  rw [hpx, hpy] at hA
  have HX : Hid (lineW s k = px) := hpx
  have HY : Hid (colW s k = py) := hpy
  clear hpx hpy
  refine ⟨_, rfl, ?_⟩
  go_wp2
  go_step3
  exact land0 (k := k + 1) ⟨rfl, rfl, rfl, rfl, rfl, rfl, rfl, rfl, rfl, rfl⟩ (HN.out.begin _ _ _ _) (HB.out.begin HX.out HY.out) (by rw [HM.out]; omega)


set_option maxRecDepth 10000 in
set_option maxHeartbeats 1000000 in
theorem seg0_word (s : ByteArray) (w0 : World) (R : Lx.Out) (k : Nat) (acc : List Lx.Tk) (f x fst : Nat) (u1 u2 u3 u4 en gd list c0 c1 c2 c3 : Value) (u12 u13 u14 u15 u16 u17 u18 u19 u20 u21 u22 u23 u24 u25 u26 u27 u28 u29 u30 u31 u32 u33 u34 u35 u36 u37 u38 u39 u40 u41 u42 u43 u44 u45 u46 u47 u48 u49 u50 u51 u52 u53 u54 u55 u56 u57 u58 u59 u60 u61 u62 u63 u64 u65 u66 u67 u68 u69 u70 u71 u72 u73 u74 u75 u76 u77 u78 u79 u80 u81 u82 u83 u84 u85 u86 u87 u88 u89 u90 u91 u92 u93 u94 u95 u96 u97 u98 u99 u100 u101 u102 u103 u104 u105 u106 u107 u108 u109 u110 u111 u112 u113 u114 u115 u116 u117 u118 u119 u120 u121 u122 u123 u124 u125 u126 u127 u128 u129 u130 u131 u132 u133 u134 u135 u136 u137 u138 u139 u140 u141 u142 : Value) (w : World) (Q : Exit → Act → World → Prop) (m : Nat)
   (hI : Inv s w0 R k k acc f x fst list w) (hB : Box w w0.heap.size c0 c1 c2 c3) (hs : s.size ≤ 6000) (hk : k < s.size) (hm : m = (s.size - k) * 20000 + 15000) (hn : Lx.blank s[k] = false) (h35 : s[k] ≠ 35) (hl : Lx.lower s[k] = true) :
   ∃ r, findLabel splitBody 0 = some (Code.skip.seq r) ∧ r.wp Tryz.prog (After s w0 R m Q) { tmps := #[.string s, u1, u2, u3, u4, .complex .f64 (Fp.rung x) one64, .int .i64 (fst : Int), .int .i64 (k : Int), en, gd, list, boxAt w0, u12, u13, u14, u15, u16, u17, u18, u19, u20, u21, u22, u23, u24, u25, u26, u27, u28, u29, u30, u31, u32, u33, u34, u35, u36, u37, u38, u39, u40, u41, u42, u43, u44, u45, u46, u47, u48, u49, u50, u51, u52, u53, u54, u55, u56, u57, u58, u59, u60, u61, u62, u63, u64, u65, u66, u67, u68, u69, u70, u71, u72, u73, u74, u75, u76, u77, u78, u79, u80, u81, u82, u83, u84, u85, u86, u87, u88, u89, u90, u91, u92, u93, u94, u95, u96, u97, u98, u99, u100, u101, u102, u103, u104, u105, u106, u107, u108, u109, u110, u111, u112, u113, u114, u115, u116, u117, u118, u119, u120, u121, u122, u123, u124, u125, u126, u127, u128, u129, u130, u131, u132, u133, u134, u135, u136, u137, u138, u139, u140, u141, u142], defers := [] } w := by
  have hA : ∀ w, _ := place_sum s k x fst hs hI.ps hI.fk hI.spot
  have hkb : ((k : Int) == (s.size : Int)) = false := by rw [beq_eq_false_iff_ne]; omega
  have hki : (k : Int) < (s.size : Int) := by omega
  have hf' : fst ≤ k := hI.fk
  have hxs : x ≤ 10000 := by
    have h1 := Sp.spot_le (s.data.toList.take k)
    have h2 : (s.data.toList.take k).length ≤ k := List.length_take_le _ _
    rw [hI.spot] at h1
    simp only at h1
    omega
  obtain ⟨g, rfl⟩ := hI.fuel1 hk
  have nb : s[k] ≠ 32 ∧ s[k] ≠ 9 ∧ s[k] ≠ 10 := by
    refine ⟨?_, ?_, ?_⟩ <;> (intro e; rw [e] at hn; exact absurd hn (by decide))
  have e35 : ((s[k].toNat : Int) == 35) = false := ne_byte (n := 35) (by decide) h35
  have e10 : ((s[k].toNat : Int) == 10) = false := ne_byte (n := 10) (by decide) nb.2.2
  have e32 : ((s[k].toNat : Int) == 32) = false := ne_byte (n := 32) (by decide) nb.1
  have e9 : ((s[k].toNat : Int) == 9) = false := ne_byte (n := 9) (by decide) nb.2.1
  have H35 : Hid (s[k] ≠ 35) := h35
  have HNB : Hid (Lx.blank s[k] = false) := hn
  clear nb h35 hn
  have CL : Hid (∀ w, _) := isLetter_at s[k] true hl
  have HL : Hid (Lx.lower s[k] = true) := hl
  clear hl
  obtain ⟨b0, b1, b2, b3, z0, z1, z2, z3⟩ := id hB
  have HI : Hid (Inv s w0 R k k acc _ x fst list w) := hI
  have HB : Hid (Box w w0.heap.size c0 c1 c2 c3) := hB
  have HM : Hid (m = (s.size - k) * 20000 + 15000) := hm
  clear hI hB hm
  obtain ⟨px, hpx⟩ : ∃ px, lineW s k = px := ⟨_, rfl⟩
  obtain ⟨py, hpy⟩ : ∃ py, colW s k = py := ⟨_, rfl⟩
  rw [hpx, hpy] at hA
  have HX : Hid (lineW s k = px) := hpx
  have HY : Hid (colW s k = py) := hpy
  clear hpx hpy
  refine ⟨_, rfl, ?_⟩
  go_wp2_with fail
  refine (CL.out _).mono ?_
  rintro e v1 ⟨rfl, rfl⟩
  go_wp2
  go_step3
  exact land2 (k := k) (e := k) ⟨rfl, rfl, rfl, rfl, rfl, rfl, rfl, rfl, rfl, rfl⟩ (HI.out.begin _ _ _ _) (HB.out.begin HX.out HY.out) (Nat.le_refl _) (by omega) ⟨by omega, HL.out⟩ rfl (by rw [HM.out]; omega)


set_option maxRecDepth 10000 in
set_option maxHeartbeats 1000000 in
theorem seg0_number (s : ByteArray) (w0 : World) (R : Lx.Out) (k : Nat) (acc : List Lx.Tk) (f x fst : Nat) (u1 u2 u3 u4 en gd list c0 c1 c2 c3 : Value) (u12 u13 u14 u15 u16 u17 u18 u19 u20 u21 u22 u23 u24 u25 u26 u27 u28 u29 u30 u31 u32 u33 u34 u35 u36 u37 u38 u39 u40 u41 u42 u43 u44 u45 u46 u47 u48 u49 u50 u51 u52 u53 u54 u55 u56 u57 u58 u59 u60 u61 u62 u63 u64 u65 u66 u67 u68 u69 u70 u71 u72 u73 u74 u75 u76 u77 u78 u79 u80 u81 u82 u83 u84 u85 u86 u87 u88 u89 u90 u91 u92 u93 u94 u95 u96 u97 u98 u99 u100 u101 u102 u103 u104 u105 u106 u107 u108 u109 u110 u111 u112 u113 u114 u115 u116 u117 u118 u119 u120 u121 u122 u123 u124 u125 u126 u127 u128 u129 u130 u131 u132 u133 u134 u135 u136 u137 u138 u139 u140 u141 u142 : Value) (w : World) (Q : Exit → Act → World → Prop) (m : Nat)
   (hI : Inv s w0 R k k acc f x fst list w) (hB : Box w w0.heap.size c0 c1 c2 c3) (hs : s.size ≤ 6000) (hk : k < s.size) (hm : m = (s.size - k) * 20000 + 15000) (hn : Lx.blank s[k] = false) (h35 : s[k] ≠ 35) (hl : Lx.lower s[k] = false) (hd : Lx.digit s[k] = true) :
   ∃ r, findLabel splitBody 0 = some (Code.skip.seq r) ∧ r.wp Tryz.prog (After s w0 R m Q) { tmps := #[.string s, u1, u2, u3, u4, .complex .f64 (Fp.rung x) one64, .int .i64 (fst : Int), .int .i64 (k : Int), en, gd, list, boxAt w0, u12, u13, u14, u15, u16, u17, u18, u19, u20, u21, u22, u23, u24, u25, u26, u27, u28, u29, u30, u31, u32, u33, u34, u35, u36, u37, u38, u39, u40, u41, u42, u43, u44, u45, u46, u47, u48, u49, u50, u51, u52, u53, u54, u55, u56, u57, u58, u59, u60, u61, u62, u63, u64, u65, u66, u67, u68, u69, u70, u71, u72, u73, u74, u75, u76, u77, u78, u79, u80, u81, u82, u83, u84, u85, u86, u87, u88, u89, u90, u91, u92, u93, u94, u95, u96, u97, u98, u99, u100, u101, u102, u103, u104, u105, u106, u107, u108, u109, u110, u111, u112, u113, u114, u115, u116, u117, u118, u119, u120, u121, u122, u123, u124, u125, u126, u127, u128, u129, u130, u131, u132, u133, u134, u135, u136, u137, u138, u139, u140, u141, u142], defers := [] } w := by
  have hA : ∀ w, _ := place_sum s k x fst hs hI.ps hI.fk hI.spot
  have hkb : ((k : Int) == (s.size : Int)) = false := by rw [beq_eq_false_iff_ne]; omega
  have hki : (k : Int) < (s.size : Int) := by omega
  have hf' : fst ≤ k := hI.fk
  have hxs : x ≤ 10000 := by
    have h1 := Sp.spot_le (s.data.toList.take k)
    have h2 : (s.data.toList.take k).length ≤ k := List.length_take_le _ _
    rw [hI.spot] at h1
    simp only at h1
    omega
  obtain ⟨g, rfl⟩ := hI.fuel1 hk
  have nb : s[k] ≠ 32 ∧ s[k] ≠ 9 ∧ s[k] ≠ 10 := by
    refine ⟨?_, ?_, ?_⟩ <;> (intro e; rw [e] at hn; exact absurd hn (by decide))
  have e35 : ((s[k].toNat : Int) == 35) = false := ne_byte (n := 35) (by decide) h35
  have e10 : ((s[k].toNat : Int) == 10) = false := ne_byte (n := 10) (by decide) nb.2.2
  have e32 : ((s[k].toNat : Int) == 32) = false := ne_byte (n := 32) (by decide) nb.1
  have e9 : ((s[k].toNat : Int) == 9) = false := ne_byte (n := 9) (by decide) nb.2.1
  have H35 : Hid (s[k] ≠ 35) := h35
  have HNB : Hid (Lx.blank s[k] = false) := hn
  clear nb h35 hn
  have CL : Hid (∀ w, _) := isLetter_at s[k] false hl
  have CD : Hid (∀ w, _) := isDigit_at s[k] true hd
  have HL : Hid (Lx.lower s[k] = false) := hl
  have HD : Hid (Lx.digit s[k] = true) := hd
  clear hl hd
  obtain ⟨b0, b1, b2, b3, z0, z1, z2, z3⟩ := id hB
  have HI : Hid (Inv s w0 R k k acc _ x fst list w) := hI
  have HB : Hid (Box w w0.heap.size c0 c1 c2 c3) := hB
  have HM : Hid (m = (s.size - k) * 20000 + 15000) := hm
  clear hI hB hm
  obtain ⟨px, hpx⟩ : ∃ px, lineW s k = px := ⟨_, rfl⟩
  obtain ⟨py, hpy⟩ : ∃ py, colW s k = py := ⟨_, rfl⟩
  rw [hpx, hpy] at hA
  have HX : Hid (lineW s k = px) := hpx
  have HY : Hid (colW s k = py) := hpy
  clear hpx hpy
  refine ⟨_, rfl, ?_⟩
  go_wp2_with fail
  refine (CL.out _).mono ?_
  rintro e v1 ⟨rfl, rfl⟩
  go_wp2_with fail
  refine (CD.out _).mono ?_
  rintro e v1 ⟨rfl, rfl⟩
  go_wp2
  go_step3
  exact land3 (k := k) (e := k) ⟨rfl, rfl, rfl, rfl, rfl, rfl, rfl, rfl, rfl, rfl⟩ (HI.out.begin _ _ _ _) (HB.out.begin HX.out HY.out) (Nat.le_refl _) (by omega) ⟨by omega, HL.out, HD.out⟩ rfl (by rw [HM.out]; omega)


set_option maxRecDepth 10000 in
set_option maxHeartbeats 1000000 in
theorem seg0_sign (s : ByteArray) (w0 : World) (R : Lx.Out) (k : Nat) (acc : List Lx.Tk) (f x fst : Nat) (u1 u2 u3 u4 en gd list c0 c1 c2 c3 : Value) (u12 u13 u14 u15 u16 u17 u18 u19 u20 u21 u22 u23 u24 u25 u26 u27 u28 u29 u30 u31 u32 u33 u34 u35 u36 u37 u38 u39 u40 u41 u42 u43 u44 u45 u46 u47 u48 u49 u50 u51 u52 u53 u54 u55 u56 u57 u58 u59 u60 u61 u62 u63 u64 u65 u66 u67 u68 u69 u70 u71 u72 u73 u74 u75 u76 u77 u78 u79 u80 u81 u82 u83 u84 u85 u86 u87 u88 u89 u90 u91 u92 u93 u94 u95 u96 u97 u98 u99 u100 u101 u102 u103 u104 u105 u106 u107 u108 u109 u110 u111 u112 u113 u114 u115 u116 u117 u118 u119 u120 u121 u122 u123 u124 u125 u126 u127 u128 u129 u130 u131 u132 u133 u134 u135 u136 u137 u138 u139 u140 u141 u142 : Value) (w : World) (Q : Exit → Act → World → Prop) (m : Nat)
   (hI : Inv s w0 R k k acc f x fst list w) (hB : Box w w0.heap.size c0 c1 c2 c3) (hs : s.size ≤ 6000) (hk : k < s.size) (hm : m = (s.size - k) * 20000 + 15000) (hn : Lx.blank s[k] = false) (h35 : s[k] ≠ 35) (hl : Lx.lower s[k] = false) (hd : Lx.digit s[k] = false) :
   ∃ r, findLabel splitBody 0 = some (Code.skip.seq r) ∧ r.wp Tryz.prog (After s w0 R m Q) { tmps := #[.string s, u1, u2, u3, u4, .complex .f64 (Fp.rung x) one64, .int .i64 (fst : Int), .int .i64 (k : Int), en, gd, list, boxAt w0, u12, u13, u14, u15, u16, u17, u18, u19, u20, u21, u22, u23, u24, u25, u26, u27, u28, u29, u30, u31, u32, u33, u34, u35, u36, u37, u38, u39, u40, u41, u42, u43, u44, u45, u46, u47, u48, u49, u50, u51, u52, u53, u54, u55, u56, u57, u58, u59, u60, u61, u62, u63, u64, u65, u66, u67, u68, u69, u70, u71, u72, u73, u74, u75, u76, u77, u78, u79, u80, u81, u82, u83, u84, u85, u86, u87, u88, u89, u90, u91, u92, u93, u94, u95, u96, u97, u98, u99, u100, u101, u102, u103, u104, u105, u106, u107, u108, u109, u110, u111, u112, u113, u114, u115, u116, u117, u118, u119, u120, u121, u122, u123, u124, u125, u126, u127, u128, u129, u130, u131, u132, u133, u134, u135, u136, u137, u138, u139, u140, u141, u142], defers := [] } w := by
  have hA : ∀ w, _ := place_sum s k x fst hs hI.ps hI.fk hI.spot
  have hkb : ((k : Int) == (s.size : Int)) = false := by rw [beq_eq_false_iff_ne]; omega
  have hki : (k : Int) < (s.size : Int) := by omega
  have hf' : fst ≤ k := hI.fk
  have hxs : x ≤ 10000 := by
    have h1 := Sp.spot_le (s.data.toList.take k)
    have h2 : (s.data.toList.take k).length ≤ k := List.length_take_le _ _
    rw [hI.spot] at h1
    simp only at h1
    omega
  obtain ⟨g, rfl⟩ := hI.fuel1 hk
  have nb : s[k] ≠ 32 ∧ s[k] ≠ 9 ∧ s[k] ≠ 10 := by
    refine ⟨?_, ?_, ?_⟩ <;> (intro e; rw [e] at hn; exact absurd hn (by decide))
  have e35 : ((s[k].toNat : Int) == 35) = false := ne_byte (n := 35) (by decide) h35
  have e10 : ((s[k].toNat : Int) == 10) = false := ne_byte (n := 10) (by decide) nb.2.2
  have e32 : ((s[k].toNat : Int) == 32) = false := ne_byte (n := 32) (by decide) nb.1
  have e9 : ((s[k].toNat : Int) == 9) = false := ne_byte (n := 9) (by decide) nb.2.1
  have H35 : Hid (s[k] ≠ 35) := h35
  have HNB : Hid (Lx.blank s[k] = false) := hn
  clear nb h35 hn
  have CL : Hid (∀ w, _) := isLetter_at s[k] false hl
  have CD : Hid (∀ w, _) := isDigit_at s[k] false hd
  have HL : Hid (Lx.lower s[k] = false) := hl
  have HD : Hid (Lx.digit s[k] = false) := hd
  clear hl hd
  obtain ⟨b0, b1, b2, b3, z0, z1, z2, z3⟩ := id hB
  have HI : Hid (Inv s w0 R k k acc _ x fst list w) := hI
  have HB : Hid (Box w w0.heap.size c0 c1 c2 c3) := hB
  have HM : Hid (m = (s.size - k) * 20000 + 15000) := hm
  clear hI hB hm
  obtain ⟨px, hpx⟩ : ∃ px, lineW s k = px := ⟨_, rfl⟩
  obtain ⟨py, hpy⟩ : ∃ py, colW s k = py := ⟨_, rfl⟩
  rw [hpx, hpy] at hA
  have HX : Hid (lineW s k = px) := hpx
  have HY : Hid (colW s k = py) := hpy
  clear hpx hpy
  refine ⟨_, rfl, ?_⟩
  go_wp2_with fail
  refine (CL.out _).mono ?_
  rintro e v1 ⟨rfl, rfl⟩
  go_wp2_with fail
  refine (CD.out _).mono ?_
  rintro e v1 ⟨rfl, rfl⟩
  go_wp2
  go_step3
  exact land4 (k := k) ⟨rfl, rfl, rfl, rfl, rfl, rfl, rfl, rfl, rfl, rfl⟩ (HI.out.begin _ _ _ _) (HB.out.begin HX.out HY.out) ⟨by omega, HL.out, HD.out, HNB.out, H35.out⟩ (by rw [HM.out]; omega)


end Go.Proofs.YtkobdephobaopaaGreatDoor

namespace Go.Proofs.YtkobdephobaopaaGreatDoor
open Go.RowKit

theorem lower_no10 (c : UInt8) (h : Lx.lower c = true) : c ≠ 10 := by intro e; subst e; exact absurd h (by decide)
theorem digit_no10 (c : UInt8) (h : Lx.digit c = true) : c ≠ 10 := by intro e; subst e; exact absurd h (by decide)
theorem goes_no10 (c : UInt8) (h : Lx.goes c = true) : c ≠ 10 := by intro e; subst e; exact absurd h (by decide)

theorem take_one' (c : UInt8) (r : List UInt8) (p : UInt8 → Bool) : (c :: r).take (1 + (r.takeWhile p).length) = c :: r.takeWhile p := by
  rw [Nat.add_comm, List.take_succ_cons]
  congr 1
  induction r with
  | nil => rfl
  | cons d r ih =>
    rw [List.takeWhile_cons]
    split
    · rw [List.length_cons, List.take_succ_cons, ih]
    · rfl

theorem one_flat (l : List UInt8) {kd len n : Nat} (h : Lx.one l = some (kd, len, n)) : ∀ c ∈ l.take len, c ≠ 10 := by
  cases l with
  | nil => cases h
  | cons c r =>
    rw [Lx.one_cons] at h
    by_cases c1 : Lx.lower c = true
    · rw [if_pos c1] at h
      split at h
      · simp only [Option.some.injEq, Prod.mk.injEq] at h
        obtain ⟨_, rfl, _⟩ := h
        rw [take_one']
        intro x hx
        rcases List.mem_cons.1 hx with rfl | hx
        · exact lower_no10 _ c1
        · exact goes_no10 _ (Lx.takeWhile_all _ _ x hx)
      · cases h
    · rw [if_neg c1] at h
      by_cases c2 : Lx.digit c = true
      · rw [if_pos c2] at h
        cases hn : Lx.num (c :: r.takeWhile Lx.digit) with
        | none => rw [hn] at h; cases h
        | some v =>
          rw [hn] at h
          simp only [Option.map_some, Option.some.injEq, Prod.mk.injEq] at h
          obtain ⟨_, rfl, _⟩ := h
          rw [take_one']
          intro x hx
          rcases List.mem_cons.1 hx with rfl | hx
          · exact digit_no10 _ c2
          · exact digit_no10 _ (Lx.takeWhile_all _ _ x hx)
      · rw [if_neg c2] at h
        by_cases c3 : c = 61 ∧ r.head? = some 61
        · rw [if_pos c3] at h
          simp only [Option.some.injEq, Prod.mk.injEq] at h
          obtain ⟨_, rfl, _⟩ := h
          obtain ⟨rfl, hr⟩ := c3
          cases r with
          | nil => cases hr
          | cons d r =>
            simp only [List.head?_cons, Option.some.injEq] at hr
            subst hr
            intro x hx
            simp at hx
            subst hx
            decide
        · rw [if_neg c3] at h
          by_cases c4 : Lx.signs.contains c = true
          · rw [if_pos c4] at h
            simp only [Option.some.injEq, Prod.mk.injEq] at h
            obtain ⟨_, rfl, _⟩ := h
            intro x hx
            simp at hx
            subst hx
            intro e
            subst e
            exact absurd c4 (by decide)
          · rw [if_neg c4] at h; cases h

theorem spot_flat (m : List UInt8) (h : ∀ c ∈ m, c ≠ 10) : Sp.spot m = (1, m.length + 1) := by
  suffices H : ∀ n (m : List UInt8), m.length = n → (∀ c ∈ m, c ≠ 10) → Sp.spot m = (1, m.length + 1) from H _ m rfl h
  intro n
  induction n with
  | zero => intro m hm _; have : m = [] := List.length_eq_zero_iff.1 hm; subst this; rfl
  | succ n ih =>
    intro m hm h
    have hne : m ≠ [] := by intro e; rw [e] at hm; simp at hm
    obtain ⟨l, c, rfl⟩ : ∃ l c, m = l ++ [c] := ⟨m.dropLast, m.getLast hne, (List.dropLast_concat_getLast hne).symm⟩
    rw [Sp.spot_snoc, ih l (by simp at hm; omega) (fun x hx => h x (by simp [hx])), Sp.on, if_neg (h c (by simp))]
    simp

/-- The place behind a token. -/
theorem spot_behind (l : List UInt8) (k len x c : Nat) (hk : Sp.spot (l.take k) = (x, c)) (h : ∀ b ∈ (l.drop k).take len, b ≠ 10) (hlen : k + len ≤ l.length) : Sp.spot (l.take (k + len)) = (x, c + len) := by
  have p1 := Sp.line_pos (l.take k)
  have p2 := Sp.col_pos (l.take k)
  rw [hk] at p1 p2
  simp only at p1 p2
  rw [List.take_add, Sp.spot_append, hk, spot_flat _ h, List.length_take, List.length_drop]
  simp only [if_true, Prod.mk.injEq]
  omega

theorem text_of (s : ByteArray) (k e : Nat) (_hk : k ≤ e) (_he : e ≤ s.size) : (s.extract k e) = ⟨((s.data.toList.drop k).take (e - k)).toArray⟩ := by
  apply ByteArray.ext
  apply Array.ext'
  rw [ByteArray.data_extract, Array.toList_extract, List.extract_eq_take_drop]

section
variable {s : ByteArray} {w0 : World} {R : Lx.Out} {w w1 : World} {k e kd n : Nat} {acc : List Lx.Tk} {f x fst : Nat} {list : Value}

theorem own_kept {b : Nat} {t : TypeId} {z : Nat} {v : Value} {c : Nat} {xs : List Value} (h : w.ownsRow b t z v c xs) (hk : Kept w w1) : w1.ownsRow b t z v c xs := by
  obtain ⟨h1, h2⟩ := h
  refine ⟨h1, ?_⟩
  rcases h2 with h2 | ⟨g, cap, cur, a1, a2, a3, a4⟩
  · exact .inl h2
  · refine .inr ⟨g, cap, cur, a1, a2, ?_, a4⟩
    have hg : g < w.heap.size := by
      rcases Nat.lt_or_ge g w.heap.size with hlt | hge
      · exact hlt
      · rw [Array.getElem?_eq_none hge] at a3; cases a3
    rw [hk.block g hg]; exact a3

theorem Inv.kept {p : Nat} (h : Inv s w0 R k p acc f x fst list w) (hk : Kept w w1) : Inv s w0 R k p acc f x fst list w1 :=
  { h with own := own_kept h.own hk, bel := h.bel.trans (hk.mono h.bel.size) }

theorem Box.kept {B : Nat} {c0 c1 c2 c3 : Value} (h : Box w B c0 c1 c2 c3) (hk : Kept w w1) : Box w1 B c0 c1 c2 c3 := h.block (hk.block B h.lt)

/-- Behind a token that was taken. -/
theorem Inv.taken {list' : Value} (h : Inv s w0 R k k acc (f + 1) x fst list w) (hk : k < s.size) (h1 : Lx.blank s[k] = false) (h2 : s[k] ≠ 35) (hke : k < e) (he : e ≤ s.size) (ho : Lx.one (s.data.toList.drop k) = some (kd, e - k, n))
    (ho1 : w1.ownsRow (w0.heap.size + 1) 68 4 list' (acc.length + 1) (cellsOf s acc ++ [.int .i64 (kd : Int), .string (s.extract k e), .int .i64 (n : Int), .complex .f64 (lineW s k) (colW s k)])) (hb : Below w0.heap.size w0 w1) :
    Inv s w0 R e e (acc ++ [⟨kd, k, (s.data.toList.drop k).take (e - k), n⟩]) f x fst list' w1 := by
  have hll : s.data.toList.length = s.size := by simp
  have hl : k < s.data.toList.length := by omega
  have hf := h.fuel
  have hfk := h.fk
  have ha := h.acl
  refine ⟨Nat.le_refl _, he, by omega, ?_, by omega, ?_, ?_, hb, by rw [List.length_append]; simp; omega⟩
  · have e1 := Lx.step_one s.data.toList f k acc hl (by rw [byte_at s k hk]; exact h1) (by rw [byte_at s k hk]; exact h2) ho
    rw [show k + (e - k) = e by omega] at e1
    rw [← e1]; exact h.run
  · have := spot_behind s.data.toList k (e - k) x (k - fst + 1) h.spot (one_flat _ ho) (by omega)
    rw [show k + (e - k) = e by omega] at this
    rw [this]
    simp only [Prod.mk.injEq, true_and]
    omega
  · rw [cellsOf_snoc, List.length_append, List.length_singleton]
    rw [text_of s k e (by omega) he] at ho1
    exact ho1

theorem told_bad (h : Inv s w0 R k k acc (f + 1) x fst list w) (hk : k < s.size) (h1 : Lx.blank s[k] = false) (h2 : s[k] ≠ 35) (ho : Lx.one (s.data.toList.drop k) = none) : R = .bad k := by
  have hl : k < s.data.toList.length := by simpa using hk
  rw [← h.run]
  exact Lx.step_none s.data.toList f k acc hl (by rw [byte_at s k hk]; exact h1) (by rw [byte_at s k hk]; exact h2) ho

theorem span_len (p : UInt8 → Bool) (l : List UInt8) (i : Nat) : (l.drop i).takeWhile p = (l.drop i).take (Lx.span p l i - i) := by
  unfold Lx.span
  rw [show i + ((l.drop i).takeWhile p).length - i = ((l.drop i).takeWhile p).length by omega]
  generalize l.drop i = r
  induction r with
  | nil => rfl
  | cons d r ih =>
    rw [List.takeWhile_cons]
    split
    · rw [List.length_cons, List.take_succ_cons, ← ih]
    · rfl

/-- A word's token. -/
theorem one_word (hk : k < s.size) (hl : Lx.lower s[k] = true) (hke : k ≤ e) (hsp : Lx.span Lx.goes s.data.toList (k + 1) = e + 1) : Lx.one (s.data.toList.drop k) = if e + 1 - k ≤ 12 then some (1, e + 1 - k, 0) else none := by
  have hll : k < s.data.toList.length := by simpa using hk
  rw [Lx.drop_at _ k hll, Lx.one_cons, byte_at s k hk, if_pos hl]
  have : ((s.data.toList.drop (k + 1)).takeWhile Lx.goes).length = e - k := by
    unfold Lx.span at hsp; omega
  rw [this, show 1 + (e - k) = e + 1 - k by omega]

/-- A number's digits. -/
theorem digits_of (hk : k < s.size) (hd : Lx.digit s[k] = true) (hke : k ≤ e) (he : e < s.size) (hsp : Lx.span Lx.digit s.data.toList (k + 1) = e + 1) :
    (s.extract k (e + 1)).data.toList = s[k] :: (s.data.toList.drop (k + 1)).takeWhile Lx.digit ∧ (∀ c ∈ (s.extract k (e + 1)).data.toList, Lx.digit c = true) ∧ (s.extract k (e + 1)).data.toList ≠ [] ∧ (s.extract k (e + 1)).size ≤ s.size := by
  have hll : k < s.data.toList.length := by simpa using hk
  have h1 : (s.extract k (e + 1)).data.toList = s[k] :: (s.data.toList.drop (k + 1)).takeWhile Lx.digit := by
    rw [text_of s k (e + 1) (by omega) (by omega)]
    show (s.data.toList.drop k).take (e + 1 - k) = _
    rw [Lx.drop_at _ k hll, byte_at s k hk, span_len, hsp, show e + 1 - k = (e + 1 - (k + 1)) + 1 by omega, List.take_succ_cons]
  refine ⟨h1, ?_, by rw [h1]; simp, by rw [ByteArray.size_extract]; omega⟩
  rw [h1]
  intro c hc
  rcases List.mem_cons.1 hc with rfl | hc
  · exact hd
  · exact Lx.takeWhile_all _ _ c hc

theorem one_number {o : Option Nat} (hk : k < s.size) (hl : Lx.lower s[k] = false) (hd : Lx.digit s[k] = true) (hke : k ≤ e) (he : e < s.size) (hsp : Lx.span Lx.digit s.data.toList (k + 1) = e + 1) (ho : Lx.num (s.extract k (e + 1)).data.toList = o) :
    Lx.one (s.data.toList.drop k) = o.map fun n => (2, e + 1 - k, n) := by
  have hll : k < s.data.toList.length := by simpa using hk
  rw [(digits_of hk hd hke he hsp).1] at ho
  rw [Lx.drop_at _ k hll, Lx.one_cons, byte_at s k hk, if_neg (by rw [hl]; decide), if_pos hd, ho]
  have : ((s.data.toList.drop (k + 1)).takeWhile Lx.digit).length = e - k := by
    unfold Lx.span at hsp; omega
  rw [this, show 1 + (e - k) = e + 1 - k by omega]

theorem one_sign (hk : k < s.size) (hl : Lx.lower s[k] = false) (hd : Lx.digit s[k] = false) : Lx.one (s.data.toList.drop k) = if signLen (s.data.toList.drop k) = 0 then none else some (3, signLen (s.data.toList.drop k), 0) := by
  have hll : k < s.data.toList.length := by simpa using hk
  rw [Lx.drop_at _ k hll, Lx.one_cons, byte_at s k hk, if_neg (by rw [hl]; decide), if_neg (by rw [hd]; decide)]
  unfold signLen
  simp only
  by_cases c1 : s[k] = 61
  · rw [if_pos c1]
    by_cases c2 : (s.data.toList.drop (k + 1)).head? = some 61
    · rw [if_pos ⟨c1, c2⟩, if_pos c2]; rfl
    · rw [if_neg (fun h => c2 h.2), if_neg c2, if_pos (by rw [c1]; decide)]; rfl
  · rw [if_neg (fun h => c1 h.1), if_neg c1]
    by_cases c3 : Lx.signs.contains s[k] = true
    · rw [if_pos c3, if_pos c3]; rfl
    · rw [if_neg c3, if_neg c3]; rfl

theorem signLen_le (l : List UInt8) : signLen l ≤ l.length := by
  unfold signLen
  cases l with
  | nil => exact Nat.le_refl _
  | cons c r =>
    simp only
    by_cases c1 : c = 61
    · rw [if_pos c1]
      cases r with
      | nil => simp
      | cons d r => split <;> simp
    · rw [if_neg c1]; split <;> simp

end
end Go.Proofs.YtkobdephobaopaaGreatDoor
