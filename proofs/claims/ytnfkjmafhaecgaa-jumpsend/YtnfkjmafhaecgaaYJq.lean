/- Jq -/
import Derived.Test.YtnfkjmafhaecgaaYJp
import Derived.Test.YtnfkjmafhaecgaaYQa
import Derived.Test.YtnfkjmafhaecgaaYNh

namespace Go.Proofs.Ytnfkjmafhaecgaa
open Go.RowKit
namespace Jf
/-- A Goto or a Label, as the program keeps it. -/
structure Sp where
  lab : Bool
  name : ByteArray
  num : Nat
  blk : Nat
  thr : Nat
  re : Nat
  im : Nat
def Sp.cells (x : Sp) : List Value := [.bool x.lab, .string x.name, .int .i64 (x.num : Int), .int .i64 (x.blk : Int), .int .i64 (x.thr : Int), .complex .f64 x.re x.im]
def Sp.val (x : Sp) : Value := .agg #[.bool x.lab, .string x.name, .int .i64 (x.num : Int), .int .i64 (x.blk : Int), .int .i64 (x.thr : Int), .complex .f64 x.re x.im]
def sp0 : Sp := ⟨false, ⟨#[]⟩, 0, 0, 0, 0, 0⟩
def spc (l : List Sp) : List Value := l.flatMap Sp.cells
theorem spc_snoc (l : List Sp) (x : Sp) : spc (l ++ [x]) = spc l ++ x.cells := by simp [spc]
theorem spc_get : ∀ (l : List Sp) (i : Nat) (hi : i < l.length) (j : Nat), j < 6 → (spc l)[i * 6 + j]? = l[i].cells[j]?
  | [], i, hi, _, _ => by simp at hi
  | a :: l, 0, _, j, hj => by
    have hl : a.cells.length = 6 := rfl
    show (a.cells ++ spc l)[0 * 6 + j]? = _
    rw [Nat.zero_mul, Nat.zero_add, List.getElem?_append_left (by omega)]; rfl
  | a :: l, i + 1, hi, j, hj => by
    have hl : a.cells.length = 6 := rfl
    show (a.cells ++ spc l)[(i + 1) * 6 + j]? = _
    rw [List.getElem?_append_right (by omega), hl, show (i + 1) * 6 + j - 6 = i * 6 + j by omega, spc_get l i (by simpa using hi) j hj]; simp
theorem cells_one (x : Sp) : ∀ u ∈ x.cells, u.oneCell' = true := fun u hu => by
  simp [Sp.cells] at hu
  rcases hu with rfl | rfl | rfl | rfl | rfl | rfl <;> rfl
mutual
/-- The Gotos and Labels of a statement: f: its block's first number; p: its own. -/
def spo : St → Nat → Nat → Nat → List Sp
  | .mk k s _ _ _ b l x y, f, thr, p => (if k = 9 ∨ k = 10 then [⟨k == 10, s, p, f, thr, x, y⟩] else []) ++ (spm b (p + 1) thr (p + 1) ++ spm l (p + 1 + St.sizes b) thr (p + 1 + St.sizes b))
def spm : List St → Nat → Nat → Nat → List Sp
  | [], _, _, _ => []
  | a :: l, f, thr, p => spo a f thr p ++ spm l f thr (p + St.size a)
end
def sph (s : St) (f thr p : Nat) : List Sp := if s.kind = 9 ∨ s.kind = 10 then [⟨s.kind == 10, s.name, p, f, thr, s.re, s.im⟩] else []
theorem spo_eq (s : St) (f thr p : Nat) : spo s f thr p = sph s f thr p ++ (spm s.body (p + 1) thr (p + 1) ++ spm s.els (p + 1 + St.sizes s.body) thr (p + 1 + St.sizes s.body)) := by cases s; rw [spo]; rfl
theorem spm_append (l m : List St) (f thr : Nat) : ∀ p, spm (l ++ m) f thr p = spm l f thr p ++ spm m f thr (p + St.sizes l) := by
  induction l with
  | nil => intro p; simp [spm, St.sizes]
  | cons a l ih => intro p; simp only [List.cons_append, spm, ih, St.sizes, List.append_assoc]; rw [Nat.add_assoc p]
theorem spm_take (l : List St) (k : Nat) (h : k < l.length) (f thr p : Nat) : spm (l.take (k + 1)) f thr p = spm (l.take k) f thr p ++ spo l[k] f thr (p + St.sizes (l.take k)) := by
  rw [List.take_succ_eq_append_getElem h, spm_append]; simp [spm]
def spt : List (List St) → Nat → Nat → List Sp
  | [], _, _ => []
  | b :: t, thr, p => spm b p thr p ++ spt t (thr + 1) (p + St.sizes b)
theorem spt_append (t u : List (List St)) : ∀ thr p, spt (t ++ u) thr p = spt t thr p ++ spt u (thr + t.length) (p + tsz t) := by
  induction t with
  | nil => intro thr p; simp [spt, tsz]
  | cons b t ih => intro thr p; simp only [List.cons_append, spt, ih, tsz, List.append_assoc, List.length_cons]; rw [show thr + 1 + t.length = thr + (t.length + 1) by omega, show p + St.sizes b + tsz t = p + (St.sizes b + tsz t) by omega]
theorem spt_take (t : List (List St)) (k : Nat) (h : k < t.length) : spt (t.take (k + 1)) 0 0 = spt (t.take k) 0 0 ++ spm t[k] (tsz (t.take k)) k (tsz (t.take k)) := by
  rw [List.take_succ_eq_append_getElem h, spt_append]
  have : (t.take k).length = k := by rw [List.length_take]; omega
  simp [spt, this]
/-- What is a Goto or a Label. -/
def sp (a : An) : Option Sp := if a.s.kind = 9 ∨ a.s.kind = 10 then some ⟨a.s.kind == 10, a.s.name, a.num, a.f, a.thr, a.s.re, a.s.im⟩ else none
theorem sps_many_of (l : List St) (H : ∀ s ∈ l, (∀ here f thr n p, (many s.body here f thr n p).filterMap sp = spm s.body f thr p) ∧ (∀ here f thr n p, (many s.els here f thr n p).filterMap sp = spm s.els f thr p)) : ∀ here f thr n p, (many l here f thr n p).filterMap sp = spm l f thr p := by
  induction l with
  | nil => intro here f thr n p; simp [many, spm]
  | cons s l ih =>
    intro here f thr n p
    rw [many, spm, List.filterMap_append, one_eq, spo_eq, ih (fun y hy => H y (List.mem_cons_of_mem _ hy)), List.filterMap_cons, List.filterMap_append, (H s List.mem_cons_self).1, (H s List.mem_cons_self).2]
    unfold sp sph
    split
    · rename_i h; simp only at h; split at h
      · cases h
      · rename_i h2; rw [if_neg h2]; rfl
    · rename_i x h; simp only at h; split at h
      · rename_i h2; injection h with h; rw [if_pos h2, ← h]; rfl
      · cases h
theorem sps_many (l : List St) : ∀ here f thr n p, (many l here f thr n p).filterMap sp = spm l f thr p := sps_many_of l fun s _ => St.ind (P := fun s => (∀ here f thr n p, (many s.body here f thr n p).filterMap sp = spm s.body f thr p) ∧ (∀ here f thr n p, (many s.els here f thr n p).filterMap sp = spm s.els f thr p)) (fun s hb hl => ⟨sps_many_of s.body hb, sps_many_of s.els hl⟩) s
theorem sps_all (t : List (List St)) : ∀ thr n p, (allA t thr n p).filterMap sp = spt t thr p := by
  induction t with
  | nil => intro thr n p; simp [allA, spt]
  | cons b t ih => intro thr n p; rw [allA, spt, List.filterMap_append, sps_many, ih]
/-- Where a Goto goes, of what stands behind it. -/
def stgt (s : Sp) : List Sp → Int
  | [] => -1
  | x :: r => if x.lab = true ∧ x.name = s.name ∧ x.blk ≤ s.num then (x.num : Int) else stgt s r
def starg : List Sp → Int → Int
  | [], _ => -1
  | s :: r, i => if (s.num : Int) = i ∧ s.lab = false then stgt s r else starg r i
/-- Is it a Label whose name one of pre of its thread has? -/
def twice (pre : List Sp) (s : Sp) : Bool := s.lab && pre.any fun x => x.lab && (decide (x.name = s.name) && (x.thr == s.thr))
/-- Is it a Goto that goes nowhere? -/
def lost (s : Sp) (post : List Sp) : Bool := !s.lab && decide (stgt s post < 0)
def ftw : List Sp → List Sp → Nat
  | pre, [] => pre.length
  | pre, s :: r => if twice pre s = true then pre.length else ftw (pre ++ [s]) r
def flo : Nat → List Sp → Nat
  | k, [] => k
  | k, s :: r => if lost s r = true then k else flo (k + 1) r
/-- What Check tells. -/
def chk (l : List Sp) : Option (Nat × Nat) := l[min (ftw [] l) (flo 0 l)]?.map fun s => (s.re, s.im)
def told : Option (Nat × Nat) → Value
  | some (x, y) => .tuple #[.complex .f64 x y, .int .i64 4]
  | none => .tuple #[.complex .f64 0 0, .int .i64 0]
theorem ftw_le : ∀ (r pre : List Sp), ftw pre r ≤ pre.length + r.length
  | [], pre => by simp [ftw]
  | s :: r, pre => by
    rw [ftw]
    split
    · simp
    · have := ftw_le r (pre ++ [s]); simp at this ⊢; omega
theorem flo_le : ∀ (r : List Sp) (k : Nat), flo k r ≤ k + r.length
  | [], k => by simp [flo]
  | s :: r, k => by
    rw [flo]
    split
    · simp
    · have := flo_le r (k + 1); simp at this ⊢; omega
theorem starg_step (l : List Sp) (k : Nat) (h : k < l.length) (i : Int) : starg (l.drop k) i = if (l[k].num : Int) = i ∧ l[k].lab = false then stgt l[k] (l.drop (k + 1)) else starg (l.drop (k + 1)) i := by
  rw [List.drop_eq_getElem_cons h]; rfl
theorem stgt_step (s : Sp) (l : List Sp) (k : Nat) (h : k < l.length) : stgt s (l.drop k) = if l[k].lab = true ∧ l[k].name = s.name ∧ l[k].blk ≤ s.num then (l[k].num : Int) else stgt s (l.drop (k + 1)) := by
  rw [List.drop_eq_getElem_cons h]; rfl
theorem ftw_step (l : List Sp) (k : Nat) (h : k < l.length) : ftw (l.take k) (l.drop k) = if twice (l.take k) l[k] = true then k else ftw (l.take (k + 1)) (l.drop (k + 1)) := by
  rw [List.drop_eq_getElem_cons h, ftw, List.take_succ_eq_append_getElem h, List.length_take, Nat.min_eq_left (by omega)]
theorem flo_step (l : List Sp) (k : Nat) (h : k < l.length) : flo k (l.drop k) = if lost l[k] (l.drop (k + 1)) = true then k else flo (k + 1) (l.drop (k + 1)) := by
  rw [List.drop_eq_getElem_cons h, flo]
end Jf
open Jf
theorem elemJ : ElemOf Try.prog 60 64 (.agg #[.bool false, .string ⟨#[]⟩, .int .i64 0, .int .i64 0, .int .i64 0, .complex .f64 0 0]) 6 64 := ⟨Try.underlying60, by kernel_rfl, rfl, by decide⟩
/-- They lie in memory of their own. -/
structure OwnJ (w : World) (base : Nat) (l : List Sp) (v : Value) : Prop where
  row : w.ownsRow base 64 6 v l.length (spc l)
  le : base ≤ w.heap.size
theorem OwnJ.nil (w : World) (base : Nat) (h : base ≤ w.heap.size) : OwnJ w base [] (.slice none 0 0) := ⟨⟨rfl, .inl ⟨rfl, rfl⟩⟩, h⟩
theorem OwnJ.bu {M : Nat → Prop} {w w' : World} {base : Nat} {l : List Sp} {v : Value} (h : OwnJ w base l v) (b : Bu M w w') (hM : ∀ k, v.ownBlock = some k → ¬ M k) : OwnJ w' base l v := by
  refine ⟨⟨h.row.1, ?_⟩, Nat.le_trans h.le b.size⟩
  rcases h.row.2 with h0 | ⟨g, cap, cur, e, hb, hg, r⟩
  · exact .inl h0
  · have hlt : g < w.heap.size := by
      rcases Nat.lt_or_ge g w.heap.size with c | c
      · exact c
      · rw [Array.getElem?_eq_none (by omega)] at hg; cases hg
    exact .inr ⟨g, cap, cur, e, hb, (b.block g hlt (hM g (by rw [e]; rfl))).trans hg, r⟩
theorem OwnJ.kept {w w' : World} {base : Nat} {l : List Sp} {v : Value} (h : OwnJ w base l v) (k : Kept w w') : OwnJ w' base l v := h.bu (M := fun _ => False) (Bu.of k) fun _ _ c => c
theorem OwnJ.lower {w : World} {base base' : Nat} {l : List Sp} {v : Value} (h : OwnJ w base l v) (hb : base' ≤ base) : OwnJ w base' l v := by
  refine ⟨⟨h.row.1, ?_⟩, Nat.le_trans hb h.le⟩
  rcases h.row.2 with h0 | ⟨g, cap, cur, e, hb', r⟩
  · exact .inl h0
  · exact .inr ⟨g, cap, cur, e, Nat.le_trans hb hb', r⟩
theorem OwnJ.cell {w : World} {base g n cap : Nat} {l : List Sp} (h : OwnJ w base l (.slice (some ⟨g, 0, none⟩) n cap)) (i : Nat) (hi : i < l.length) : w.rangeAt g (i * 6) l[i].cells ∧ (∀ j, w.frozen? ⟨g, j, none⟩ = false) ∧ g < w.heap.size := by
  have hn : n = l.length := by
    obtain ⟨a, c, e, _⟩ := own_slice h.row
    injection e
  subst hn
  refine ⟨fun j v hj => ?_, fun j => own_fz h.row j, (h.row.lt g rfl).2⟩
  have hj6 : j < 6 := (List.getElem?_eq_some_iff.1 hj).1
  rw [h.row.cellAt (i * 6 + j) (by omega), spc_get l i hi j hj6, hj]
/-- A row of them is a slice; where it is not empty it has a block of its own. -/
theorem OwnJ.open {w : World} {base : Nat} {l : List Sp} {v : Value} (h : OwnJ w base l v) : ∃ a cap, v = .slice a l.length cap ∧ l.length ≤ cap ∧ cap ≤ 9223372036854775807 ∧ (0 < l.length → ∃ g, a = some ⟨g, 0, none⟩) := by
  obtain ⟨a, cap, rfl, hs⟩ := own_slice h.row
  refine ⟨a, cap, rfl, hs.le, hs.big, fun h0 => ?_⟩
  rcases h.row.2 with ⟨e0, e1⟩ | ⟨g, cap', cur, e0, -⟩
  · omega
  · injection e0 with e0; exact ⟨g, e0⟩
/-- What through turns: the walker's box, and the row that it appends to. -/
structure Th (w : World) (B base : Nat) (sl : Value) (w' : World) (l : List Sp) (thr n : Nat) (v : Value) : Prop where
  box : BoxS w' B [.int .i64 (thr : Int), .int .i64 (n : Int), v]
  own : OwnJ w' base l v
  bu : Bu (fun j => j = B ∨ sl.ownBlock = some j) w w'
  lies : v.ownBlock = sl.ownBlock ∨ ∃ j, v.ownBlock = some j ∧ w.heap.size ≤ j
theorem Th.refl {w : World} {B base : Nat} {sl : Value} {l : List Sp} {thr n : Nat} (hb : BoxS w B [.int .i64 (thr : Int), .int .i64 (n : Int), sl]) (ho : OwnJ w base l sl) : Th w B base sl w l thr n sl := ⟨hb, ho, Bu.refl _ _, .inl rfl⟩
theorem Th.kept {w w' W : World} {B base : Nat} {sl v : Value} {l : List Sp} {thr n : Nat} (h : Th w B base sl w' l thr n v) (k : Kept w' W) : Th w B base sl W l thr n v := ⟨h.box.kept k, h.own.kept k, h.bu.then (Bu.of k), h.lies⟩
theorem Th.then {w w1 w2 : World} {B base : Nat} {sl v v2 : Value} {l l2 : List Sp} {thr n n2 : Nat} (h : Th w B base sl w1 l thr n v) (k : Th w1 B base v w2 l2 thr n2 v2) : Th w B base sl w2 l2 thr n2 v2 := by
  refine ⟨k.box, k.own, ⟨k.bu.os.trans h.bu.os, k.bu.tape.trans h.bu.tape, k.bu.output.trans h.bu.output, Nat.le_trans h.bu.size k.bu.size, fun i hi hn => (k.bu.block i (Nat.lt_of_lt_of_le hi h.bu.size) fun c => hn (c.imp id fun e => ?_)).trans (h.bu.block i hi hn)⟩, ?_⟩
  · rcases h.lies with h1 | ⟨j, h1, h2⟩
    · rw [← h1]; exact e
    · rw [h1] at e; injection e with e; omega
  · rcases k.lies with h1 | ⟨j, h1, h2⟩
    · rcases h.lies with h3 | ⟨j, h3, h4⟩
      · exact .inl (h1.trans h3)
      · exact .inr ⟨j, h1.trans h3, h4⟩
    · exact .inr ⟨j, h1, Nat.le_trans h.bu.size h2⟩
end Go.Proofs.Ytnfkjmafhaecgaa
