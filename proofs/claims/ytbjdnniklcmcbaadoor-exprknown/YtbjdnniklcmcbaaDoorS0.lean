/- lex.split from its label 'between' on: at the text's end. -/
import Derived.Test.YtbjdnniklcmcbaaDoorFr
namespace Go.Proofs.YtbjdnniklcmcbaaDoor
open Go.RowKit
attribute [local go_sem] run_store_complex

theorem tok_info : ∃ i, Tryd.prog.info? 50 = some i ∧ i.zero = some (.agg #[.int .i64 0, .string ⟨#[]⟩, .int .i64 0, .complex .f64 0 0]) ∧ i.size = 4 ∧ i.bytes = 48 := by
  have h : (Tryd.prog.info? 50).map (fun i => (i.zero, i.size, i.bytes)) = some (some (.agg #[.int .i64 0, .string ⟨#[]⟩, .int .i64 0, .complex .f64 0 0]), 4, 48) := by kernel_rfl
  cases hi : Tryd.prog.info? 50 with
  | none => rw [hi] at h; cases h
  | some i =>
    rw [hi] at h
    simp only [Option.map_some, Option.some.injEq, Prod.mk.injEq] at h
    exact ⟨i, rfl, h.1, h.2.1, h.2.2⟩

theorem news_at (w : World) (c0 c1 c2 c3 : Value) (t : TypeId) : ∀ j u, [c0, c1, c2, c3][j]? = some u → (w.alloc (.cells #[c0, c1, c2, c3] t)).cell? ((⟨w.heap.size, 0, none⟩ : Addr).add j) = some u := by
  intro j u hj
  match j, hj with
  | 0, hj => simp at hj; subst hj; simp [Addr.add]
  | 1, hj => simp at hj; subst hj; simp [Addr.add]
  | 2, hj => simp at hj; subst hj; simp [Addr.add]
  | 3, hj => simp at hj; subst hj; simp [Addr.add]
  | j + 4, hj => simp at hj

theorem news_of (w : World) (B : Nat) (hB : w.heap.size = B) (c0 c1 c2 c3 : Value) (t : TypeId) : ∀ j u, [c0, c1, c2, c3][j]? = some u → (w.alloc (.cells #[c0, c1, c2, c3] t)).cell? ((⟨B, 0, none⟩ : Addr).add j) = some u := by
  subst hB; exact news_at w c0 c1 c2 c3 t

theorem told_end {s : ByteArray} {w0 : World} {R : Lx.Out} {k : Nat} {acc : List Lx.Tk} {f x fst : Nat} {list : Value} {w : World} (h : Inv s w0 R k k acc f x fst list w) (hk : k = s.size) : R = .good (acc ++ [⟨4, k, [], 0⟩]) := by
  have hf := h.fuel
  cases f with
  | zero => omega
  | succ f =>
    have := h.run
    have hl : s.data.toList.length = s.size := by simp
    rw [hk, ← hl] at this ⊢
    rw [Lx.step_end] at this
    exact this.symm

theorem own_lower {w : World} {b b' : Nat} {e : TypeId} {size : Nat} {v : Value} {n : Nat} {xs : List Value} (h : w.ownsRow b e size v n xs) (hb : b' ≤ b) : w.ownsRow b' e size v n xs := by
  obtain ⟨h1, h2⟩ := h
  refine ⟨h1, ?_⟩
  rcases h2 with h2 | ⟨g, cap, cur, a1, a2, a3⟩
  · exact .inl h2
  · exact .inr ⟨g, cap, cur, a1, Nat.le_trans hb a2, a3⟩

/-- Behind the append of a token. -/
theorem behind_append {s : ByteArray} {w0 : World} {R : Lx.Out} {k p : Nat} {acc : List Lx.Tk} {f x fst : Nat} {list : Value} {w w1 : World} (h : Inv s w0 R k p acc f x fst list w) (hB : w0.heap.size < w.heap.size) {o : Obj} (hg : (w.alloc o).grownBy w1 list.ownBlock) :
    Below w0.heap.size w0 w1 ∧ w1.heap[w0.heap.size]? = w.heap[w0.heap.size]? := by
  have hr : ∀ k, list.ownBlock = some k → w0.heap.size + 1 ≤ k ∧ k < w.heap.size := fun k e => h.own.lt k e
  refine ⟨(h.bel.alloc (by omega) o).grown hg (by simp; omega) fun k e => by have := hr k e; omega, ?_⟩
  rw [hg.block w0.heap.size (by simp; omega) (fun e => by have := hr _ e.symm; omega)]
  exact Below.heap_alloc w o _ hB

set_option maxRecDepth 10000 in
set_option maxHeartbeats 1000000 in
theorem seg0_end (s : ByteArray) (w0 : World) (R : Lx.Out) (k : Nat) (acc : List Lx.Tk) (f x fst : Nat) (u1 u2 u3 u4 en gd list c0 c1 c2 c3 : Value) (u12 u13 u14 u15 u16 u17 u18 u19 u20 u21 u22 u23 u24 u25 u26 u27 u28 u29 u30 u31 u32 u33 u34 u35 u36 u37 u38 u39 u40 u41 u42 u43 u44 u45 u46 u47 u48 u49 u50 u51 u52 u53 u54 u55 u56 u57 u58 u59 u60 u61 u62 u63 u64 u65 u66 u67 u68 u69 u70 u71 u72 u73 u74 u75 u76 u77 u78 u79 u80 u81 u82 u83 u84 u85 u86 u87 u88 u89 u90 u91 u92 u93 u94 u95 u96 u97 u98 u99 u100 u101 u102 u103 u104 u105 u106 u107 u108 u109 u110 u111 u112 u113 u114 u115 u116 u117 u118 u119 u120 u121 u122 u123 u124 u125 u126 u127 u128 u129 u130 u131 u132 u133 u134 u135 u136 u137 u138 u139 u140 u141 u142 : Value) (w : World) (Q : Exit → Act → World → Prop) (m : Nat)
   (hI : Inv s w0 R k k acc f x fst list w) (hB : Box w w0.heap.size c0 c1 c2 c3) (hs : s.size ≤ 6000) (hk : k = s.size) (hQ : ∀ a w, Ret s w0 R a w → Q .ret a w) :
   ∃ r, findLabel splitBody 0 = some (Code.skip.seq r) ∧ r.wp Tryd.prog (After s w0 R m Q) { tmps := #[.string s, u1, u2, u3, u4, .complex .f64 (Fp.rung x) one64, .int .i64 (fst : Int), .int .i64 (k : Int), en, gd, list, boxAt w0, u12, u13, u14, u15, u16, u17, u18, u19, u20, u21, u22, u23, u24, u25, u26, u27, u28, u29, u30, u31, u32, u33, u34, u35, u36, u37, u38, u39, u40, u41, u42, u43, u44, u45, u46, u47, u48, u49, u50, u51, u52, u53, u54, u55, u56, u57, u58, u59, u60, u61, u62, u63, u64, u65, u66, u67, u68, u69, u70, u71, u72, u73, u74, u75, u76, u77, u78, u79, u80, u81, u82, u83, u84, u85, u86, u87, u88, u89, u90, u91, u92, u93, u94, u95, u96, u97, u98, u99, u100, u101, u102, u103, u104, u105, u106, u107, u108, u109, u110, u111, u112, u113, u114, u115, u116, u117, u118, u119, u120, u121, u122, u123, u124, u125, u126, u127, u128, u129, u130, u131, u132, u133, u134, u135, u136, u137, u138, u139, u140, u141, u142], defers := [] } w := by
  have hA : ∀ w, _ := place_sum s k x fst hs hI.ps hI.fk hI.spot
  have hkb : ((k : Int) == (s.size : Int)) = true := by rw [hk]; simp
  have hf' : fst ≤ k := hI.fk
  have hks : k ≤ s.size := hI.ps
  have hcb : acc.length ≤ 6000 := by have := hI.acl; omega
  have hBl := hB.lt
  obtain ⟨b0, b1, b2, b3, z0, z1, z2, z3⟩ := id hB
  have HI : Hid (Inv s w0 R k k acc f x fst list w) := hI
  have HQ : Hid (∀ a w, Ret s w0 R a w → Q .ret a w) := hQ
  have HK : Hid (k = s.size) := hk
  clear hI hQ hk hB
  obtain ⟨px, hpx⟩ : ∃ px, lineW s k = px := ⟨_, rfl⟩
  obtain ⟨py, hpy⟩ : ∃ py, colW s k = py := ⟨_, rfl⟩
  rw [hpx, hpy] at hA
  have HX : Hid (lineW s k = px) := hpx
  have HY : Hid (colW s k = py) := hpy
  clear hpx hpy
  obtain ⟨i0, hi, hz0, hz1, hz2⟩ := tok_info
  have Hi : Hid (_ = _) := hi
  have Hz0 : Hid (_ = _) := hz0
  have Hz1 : Hid (_ = _) := hz1
  have Hz2 : Hid (_ = _) := hz2
  clear hi hz0 hz1 hz2
  refine ⟨_, rfl, ?_⟩
  go_wp2_with (at_builtin; refine wpList_append_lies _ (by rfl) _ _ _ (by rfl) (w0.heap.size + 1) 50 i0 _ 4 48 Tryd.underlying40 Hi.out Hz0.out Hz1.out Hz2.out rfl (by decide) list acc.length (cellsOf s acc) (by rfl) ?c0 ⟨_, 0, none⟩ 1 1 [.int .i64 4, .string ⟨#[]⟩, .int .i64 0, .complex .f64 px py] (by rfl) rfl ?c1 ?c2 (by omega) ?c3 (by omega) ?c5 _ rfl ?_)
  case c0 => exact (((((HI.out.set 0 _).set 1 _).set 2 _).set 3 _).set 0 _).own.alloc _
  case c1 => exact news_of _ _ (by simp) _ _ _ _ _
  case c2 => intro u hu; simp at hu; rcases hu with rfl | rfl | rfl | rfl <;> rfl
  case c3 => unfold maxLen; omega
  case c5 => simp; omega
  intro g cap w1 hown hgrow hat hlt
  have hb := behind_append (((((HI.out.set 0 _).set 1 _).set 2 _).set 3 _).set 0 _) (by simpa using hBl) hgrow
  have HO : Hid (World.ownsRow _ _ _ _ _ _ _) := hown
  have HBl : Hid (Below _ _ _) := hb.1
  clear hown hgrow hat hlt hb
  go_wp2
  exact HQ.out _ _ ⟨rfl, rfl, by
    rw [told_end HI.out HK.out]
    exact ⟨rfl, rfl, own_lower (by rw [cellsOf_snoc, List.length_append, show tkCells s ⟨4, k, [], 0⟩ = [.int .i64 4, .string ⟨#[]⟩, .int .i64 0, .complex .f64 px py] by rw [← HX.out, ← HY.out]; rfl]; exact HO.out) (Nat.le_succ _), HBl.out⟩⟩
end Go.Proofs.YtbjdnniklcmcbaaDoor
