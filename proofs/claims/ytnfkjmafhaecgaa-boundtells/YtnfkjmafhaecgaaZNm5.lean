/- SgA Nm5 -/
import Derived.Test.YtnfkjmafhaecgaaZFr
import Derived.Test.YtnfkjmafhaecgaaZLxA

namespace Go.Proofs.Ytnfkjmafhaecgaa
open Go.RowKit
attribute [local go_sem] run_store_complex
theorem news_at (w : World) (c0 c1 c2 c3 : Value) (t : TypeId) : ∀ j u, [c0, c1, c2, c3][j]? = some u → (w.alloc (.cells #[c0, c1, c2, c3] t)).cell? ((⟨w.heap.size, 0, none⟩ : Addr).add j) = some u := by
  intro j u hj
  match j, hj with
  | 0, hj => simp at hj; subst hj; simp [Addr.add]
  | 1, hj => simp at hj; subst hj; simp [Addr.add]
  | 2, hj => simp at hj; subst hj; simp [Addr.add]
  | 3, hj => simp at hj; subst hj; simp [Addr.add]
  | j + 4, hj => simp at hj
theorem news_of (w : World) (B : Nat) (hB : w.heap.size = B) (c0 c1 c2 c3 : Value) (t : TypeId) : ∀ j u, [c0, c1, c2, c3][j]? = some u → (w.alloc (.cells #[c0, c1, c2, c3] t)).cell? ((⟨B, 0, none⟩ : Addr).add j) = some u := by
  subst hB; exact news_at w c0 c1 c2 c3 t
end Go.Proofs.Ytnfkjmafhaecgaa
namespace Go.Proofs.Ytnfkjmafhaecgaa
open Go.RowKit
section
variable {s : ByteArray} {w0 : World} {R : Lx.Out} {a : Act} {w : World} {m : Nat} {k : Nat} {acc : List Lx.Tk} {f x fst : Nat} {en gd list c0 c1 c2 c3 : Value}
end
end Go.Proofs.Ytnfkjmafhaecgaa
namespace Go.Proofs.Ytnfkjmafhaecgaa
open Go.RowKit
attribute [local go_sem] run_store_complex
end Go.Proofs.Ytnfkjmafhaecgaa
namespace Go.Proofs.Ytnfkjmafhaecgaa
open Go.RowKit
theorem text_of (s : ByteArray) (k e : Nat) (_hk : k ≤ e) (_he : e ≤ s.size) : (s.extract k e) = ⟨((s.data.toList.drop k).take (e - k)).toArray⟩ := by
  apply ByteArray.ext
  apply Array.ext'
  rw [ByteArray.data_extract, Array.toList_extract, List.extract_eq_take_drop]
section
variable {s : ByteArray} {w0 : World} {R : Lx.Out} {w w1 : World} {k e kd n : Nat} {acc : List Lx.Tk} {f x fst : Nat} {list : Value}
theorem own_kept {b : Nat} {t : TypeId} {z : Nat} {v : Value} {c : Nat} {xs : List Value} (h : w.ownsRow b t z v c xs) (hk : Kept w w1) : w1.ownsRow b t z v c xs := by
  obtain ⟨h1, h2⟩ := h
  refine ⟨h1, ?_⟩
  rcases h2 with h2 | ⟨g, cap, cur, a1, a2, a3, a4⟩
  · exact .inl h2
  · refine .inr ⟨g, cap, cur, a1, a2, ?_, a4⟩
    have hg : g < w.heap.size := by
      rcases Nat.lt_or_ge g w.heap.size with hlt | hge
      · exact hlt
      · rw [Array.getElem?_eq_none hge] at a3; cases a3
    rw [hk.block g hg]; exact a3
theorem Box.kept {B : Nat} {c0 c1 c2 c3 : Value} (h : Box w B c0 c1 c2 c3) (hk : Kept w w1) : Box w1 B c0 c1 c2 c3 := h.block (hk.block B h.lt)
theorem span_len (p : UInt8 → Bool) (l : List UInt8) (i : Nat) : (l.drop i).takeWhile p = (l.drop i).take (Lx.span p l i - i) := by
  unfold Lx.span
  rw [show i + ((l.drop i).takeWhile p).length - i = ((l.drop i).takeWhile p).length by omega]
  generalize l.drop i = r
  induction r with
  | nil => rfl
  | cons d r ih =>
    rw [List.takeWhile_cons]
    split
    · rw [List.length_cons, List.take_succ_cons, ← ih]
    · rfl
/-- A word's token. -/
theorem one_word (hk : k < s.size) (hl : Lx.lower s[k] = true) (hke : k ≤ e) (hsp : Lx.span Lx.goes s.data.toList (k + 1) = e + 1) : Lx.one (s.data.toList.drop k) = if e + 1 - k ≤ 12 then some (1, e + 1 - k, 0) else none := by
  have hll : k < s.data.toList.length := by simpa using hk
  rw [Lx.drop_at _ k hll, Lx.one_cons, byte_at s k hk, if_pos hl]
  have : ((s.data.toList.drop (k + 1)).takeWhile Lx.goes).length = e - k := by
    unfold Lx.span at hsp; omega
  rw [this, show 1 + (e - k) = e + 1 - k by omega]
/-- A number's digits. -/
theorem digits_of (hk : k < s.size) (hd : Lx.digit s[k] = true) (hke : k ≤ e) (he : e < s.size) (hsp : Lx.span Lx.digit s.data.toList (k + 1) = e + 1) :
    (s.extract k (e + 1)).data.toList = s[k] :: (s.data.toList.drop (k + 1)).takeWhile Lx.digit ∧ (∀ c ∈ (s.extract k (e + 1)).data.toList, Lx.digit c = true) ∧ (s.extract k (e + 1)).data.toList ≠ [] ∧ (s.extract k (e + 1)).size ≤ s.size := by
  have hll : k < s.data.toList.length := by simpa using hk
  have h1 : (s.extract k (e + 1)).data.toList = s[k] :: (s.data.toList.drop (k + 1)).takeWhile Lx.digit := by
    rw [text_of s k (e + 1) (by omega) (by omega)]
    show (s.data.toList.drop k).take (e + 1 - k) = _
    rw [Lx.drop_at _ k hll, byte_at s k hk, span_len, hsp, show e + 1 - k = (e + 1 - (k + 1)) + 1 by omega, List.take_succ_cons]
  refine ⟨h1, ?_, by rw [h1]; simp, by rw [ByteArray.size_extract]; omega⟩
  rw [h1]
  intro c hc
  rcases List.mem_cons.1 hc with rfl | hc
  · exact hd
  · exact Lx.takeWhile_all _ _ c hc
theorem one_number {o : Option Nat} (hk : k < s.size) (hl : Lx.lower s[k] = false) (hd : Lx.digit s[k] = true) (hke : k ≤ e) (he : e < s.size) (hsp : Lx.span Lx.digit s.data.toList (k + 1) = e + 1) (ho : Lx.num (s.extract k (e + 1)).data.toList = o) :
    Lx.one (s.data.toList.drop k) = o.map fun n => (2, e + 1 - k, n) := by
  have hll : k < s.data.toList.length := by simpa using hk
  rw [(digits_of hk hd hke he hsp).1] at ho
  rw [Lx.drop_at _ k hll, Lx.one_cons, byte_at s k hk, if_neg (by rw [hl]; decide), if_pos hd, ho]
  have : ((s.data.toList.drop (k + 1)).takeWhile Lx.digit).length = e - k := by
    unfold Lx.span at hsp; omega
  rw [this, show 1 + (e - k) = e + 1 - k by omega]
end
end Go.Proofs.Ytnfkjmafhaecgaa

namespace Go.Proofs.Ytnfkjmafhaecgaa
open Go.RowKit
def kws : List (List UInt8) := [[118, 97, 114], [119, 105, 100, 101], [97, 116, 111, 109, 105, 99], [108, 111, 99, 97, 108], [109, 117, 116, 101, 120], [99, 104, 97, 110],
  [103, 111], [108, 111, 99, 107], [117, 110, 108, 111, 99, 107], [115, 101, 110, 100], [114, 101, 99, 118], [112, 114, 105, 110, 116],
  [105, 102], [101, 108, 115, 101], [114, 101, 112, 101, 97, 116], [103, 111, 116, 111], [108, 97, 98, 101, 108]]
/-- Is it a keyword? -/
def kw (s : ByteArray) : Bool := kws.any (s.toList == ·)
end Go.Proofs.Ytnfkjmafhaecgaa
namespace Go.Proofs.Ytnfkjmafhaecgaa
open Go.RowKit
/-- Is it a name? -/
def nm (s : ByteArray) : Bool := Lx.isWord s.data.toList && !kw s
theorem toList_data (s : ByteArray) : s.toList = s.data.toList := by rw [ByteArray.toList_eq]
theorem least (P : Nat → Prop) [DecidablePred P] (N : Nat) (h : ∃ j, j < N ∧ ¬ P j) : ∃ n, n < N ∧ ¬ P n ∧ ∀ j, j < n → P j := by
  induction N with
  | zero => obtain ⟨j, hj, _⟩ := h; omega
  | succ N ih =>
    by_cases h2 : ∃ j, j < N ∧ ¬ P j
    · obtain ⟨n, h3, h4, h5⟩ := ih h2
      exact ⟨n, by omega, h4, h5⟩
    · obtain ⟨j, hj, hp⟩ := h
      have hjN : j = N := by
        apply Classical.byContradiction
        intro hne
        exact h2 ⟨j, by omega, hp⟩
      subst hjN
      refine ⟨j, by omega, hp, fun i hi => ?_⟩
      apply Classical.byContradiction
      intro hni
      exact h2 ⟨i, hi, hni⟩
end Go.Proofs.Ytnfkjmafhaecgaa
