/- How an expression is written, said plainly. No program, no condition. -/
import Derived.Test.YtbjdnniklcmcbaaDoorPx
import Derived.Lib.ItoaLen
namespace Go.Proofs.YtbjdnniklcmcbaaDoor
namespace Ex
mutual
/-- Numbers that fit, short names. -/
def fit : Ex → Prop
  | .mk _ n s l => (-9223372036854775808 ≤ n ∧ n ≤ 9223372036854775807 ∧ s.size ≤ 12) ∧ fits l
def fits : List Ex → Prop
  | [] => True
  | a :: l => fit a ∧ fits l
end
theorem fit_eq (x : Ex) : fit x ↔ (-9223372036854775808 ≤ x.n ∧ x.n ≤ 9223372036854775807 ∧ x.name.size ≤ 12) ∧ fits x.of := by cases x; rw [fit]; rfl
theorem fits_mem {l : List Ex} (h : fits l) : ∀ x ∈ l, fit x := by
  induction l with
  | nil => intro x hx; cases hx
  | cons a l ih =>
    rw [fits] at h
    intro x hx
    rcases List.mem_cons.1 hx with rfl | hx
    · exact h.1
    · exact ih h.2 x hx
end Ex
namespace Px

/-- In parentheses, if it ranks below; nothing more once it is too long. -/
def wrap (k : Int) (f : List UInt8 → List UInt8) (acc : List UInt8) (least : Nat) : List UInt8 :=
  if 6000 < acc.length then acc else if rnk k < least then f (acc ++ [40]) ++ [41] else f acc
def wb : Ex → (List UInt8 → List UInt8)
  | .mk k n s l => fun acc =>
    if k = 1 then acc ++ Lib.itoa n else if k = 2 then acc ++ s.data.toList else
    match l with
    | [y] => if k = 3 then wrap y.kind (wb y) (acc ++ [45]) 4 else acc
    | [y, z] => if sgn k = [] then acc else wrap z.kind (wb z) (wrap y.kind (wb y) acc (max (rnk k) 2) ++ [32] ++ sgn k ++ [32]) (rnk k + 1)
    | _ => acc
def wr (x : Ex) (acc : List UInt8) (least : Nat) : List UInt8 := wrap x.kind (wb x) acc least

theorem wb_num (n : Int) (s : ByteArray) (l : List Ex) (acc : List UInt8) : wb (.mk 1 n s l) acc = acc ++ Lib.itoa n := by rw [wb.eq_def]; simp
theorem wb_name (n : Int) (s : ByteArray) (l : List Ex) (acc : List UInt8) : wb (.mk 2 n s l) acc = acc ++ s.data.toList := by rw [wb.eq_def]; simp
theorem wb_minus (n : Int) (s : ByteArray) (y : Ex) (acc : List UInt8) : wb (.mk 3 n s [y]) acc = wr y (acc ++ [45]) 4 := by rw [wb.eq_def]; simp [wr]
theorem wb_two (k n : Int) (s : ByteArray) (y z : Ex) (acc : List UInt8) (h : sgn k ≠ []) (h1 : k ≠ 1) (h2 : k ≠ 2) : wb (.mk k n s [y, z]) acc = wr z (wr y acc (max (rnk k) 2) ++ [32] ++ sgn k ++ [32]) (rnk k + 1) := by rw [wb.eq_def]; simp [wr, h, h1, h2]
theorem sgn_three : sgn 3 = [] := by decide
theorem wb_none (k n : Int) (s : ByteArray) (l : List Ex) (acc : List UInt8) (h1 : k ≠ 1) (h2 : k ≠ 2) (h3 : ¬ (k = 3 ∧ l.length = 1)) (h4 : ¬ (sgn k ≠ [] ∧ l.length = 2)) : wb (.mk k n s l) acc = acc := by
  rw [wb.eq_def]
  match l with
  | [] => simp [h1, h2]
  | [y] =>
    have : k ≠ 3 := fun e => h3 ⟨e, rfl⟩
    simp [h1, h2, this]
  | [y, z] =>
    have : sgn k = [] := by
      by_cases e : sgn k = []
      · exact e
      · exact absurd ⟨e, rfl⟩ h4
    simp [h1, h2, this]
  | _ :: _ :: _ :: _ => simp [h1, h2]

theorem sgn_len (k : Int) : (sgn k).length ≤ 2 := by
  unfold sgn
  repeat' split
  all_goals simp
theorem wb_len : ∀ x : Ex, x.fit → ∀ acc, (wb x acc).length + 2 ≤ acc.length + 24 * x.size := by
  refine Ex.ind fun x ih hf acc => ?_
  obtain ⟨k, n, s, l⟩ := x
  obtain ⟨⟨h0, h1, h2⟩, hl⟩ := (Ex.fit_eq _).1 hf
  have hsz := Ex.size_eq (.mk k n s l)
  have hn := Lib.itoa_length_le n h0 h1
  have hs : s.data.toList.length = s.size := by simp
  have h2' : s.size ≤ 12 := h2
  by_cases c1 : k = 1
  · subst c1; rw [wb_num, List.length_append]; omega
  by_cases c2 : k = 2
  · subst c2; rw [wb_name, List.length_append]; omega
  have wrl : ∀ y ∈ l, ∀ acc least, (wr y acc least).length ≤ acc.length + 24 * y.size := by
    intro y hy acc least
    have hfy := Ex.fits_mem hl y hy
    have hp := Ex.size_pos y
    unfold wr wrap
    split
    · omega
    · split
      · have := ih y hy hfy (acc ++ [40])
        simp only [List.length_append, List.length_cons, List.length_nil] at this ⊢
        omega
      · have := ih y hy hfy acc
        omega
  by_cases c3 : k = 3 ∧ l.length = 1
  · obtain ⟨rfl, hl1⟩ := c3
    match l, hl1 with
    | [y], _ =>
      rw [wb_minus]
      have := wrl y (by simp) (acc ++ [45]) 4
      have e : Ex.sizes [y] = y.size := by simp [Ex.sizes]
      change Ex.size _ = 1 + Ex.sizes [y] at hsz
      simp only [List.length_append, List.length_cons, List.length_nil] at this
      omega
  by_cases c4 : sgn k ≠ [] ∧ l.length = 2
  · obtain ⟨hk, hl2⟩ := c4
    match l, hl2 with
    | [y, z], _ =>
      rw [wb_two k n s y z acc hk c1 c2]
      have t1 := wrl y (by simp) acc (max (rnk k) 2)
      have t2 := wrl z (by simp) (wr y acc (max (rnk k) 2) ++ [32] ++ sgn k ++ [32]) (rnk k + 1)
      have t3 := sgn_len k
      have e : Ex.sizes [y, z] = y.size + z.size := by simp [Ex.sizes]
      change Ex.size _ = 1 + Ex.sizes [y, z] at hsz
      simp only [List.length_append, List.length_cons, List.length_nil] at t2
      omega
  rw [wb_none k n s l acc c1 c2 c3 c4]
  omega
theorem wr_len (x : Ex) (hf : x.fit) (acc : List UInt8) (least : Nat) : (wr x acc least).length ≤ acc.length + 24 * x.size := by
  unfold wr wrap
  split
  · omega
  · split
    · have := wb_len x hf (acc ++ [40])
      simp only [List.length_append, List.length_cons, List.length_nil] at this ⊢
      omega
    · have := wb_len x hf acc
      omega
end Px
#print axioms Px.wr_len
end Go.Proofs.YtbjdnniklcmcbaaDoor
