/- What Print and Digits of the program answer, at whatever memory in which the table of powers of ten lies as the program's text lays it. -/
import Derived.Test.YthkooeohhgpkcaaDoorWalksB
import Derived.Lib.ItoaMem
namespace Go.Proofs.YthkooeohhgpkcaaDoor
open Go.RowKit

/-- Nothing that was there has turned. -/
abbrev Kept (w w' : World) : Prop := Below w.heap.size w w'

theorem Kept.refl (w : World) : Kept w w := Below.refl _ _
theorem Kept.then {a b c : World} (h : Kept a b) (k : Kept b c) : Kept a c := Below.trans h (Below.mono k h.size)

/-- The table of powers of ten lies as the text lays it. -/
def Tab (w : World) : Prop := Lib.TabIs Tryd.prog w "internal/strconv.uint64pow10" .u64 Lib.pow10Tab

theorem Tab.kept {w w' : World} (h : Tab w) (k : Kept w w') : Tab w' := by
  unfold Tab Lib.TabIs World.var? at *
  cases hg : Tryd.prog.globalNamed "internal/strconv.uint64pow10" with
  | none => rw [hg] at h; cases h
  | some g =>
    rw [hg] at h
    simp only [Option.bind_some] at h ⊢
    by_cases hlt : g < w.heap.size
    · rw [k.block g hlt]; exact h
    · have : w.heap[g]? = none := by rw [Array.getElem?_eq_none]; omega
      rw [this] at h
      cases h

/-- A number's decimal digits. -/
def dig (n : Nat) : ByteArray := ⟨(Lib.decDigits n).toArray⟩

theorem nDigits_le (k : Nat) : ∀ u : Nat, u < 10 ^ (k + 1) → Lib.nDigits u ≤ k + 1 := by
  induction k with
  | zero => intro u h; rw [Lib.nDigits_small (by simpa using h)]; exact Nat.le_refl _
  | succ k ih =>
    intro u h
    by_cases hu : u < 10
    · rw [Lib.nDigits_small hu]; omega
    · rw [Lib.nDigits_big hu]
      have := ih (u / 10) (by rw [Nat.pow_succ] at h; omega)
      omega

theorem dig_size (n : Nat) (h : n < 10 ^ 20) : (dig n).size ≤ 20 := by
  show (Lib.decDigits n).toArray.size ≤ 20
  rw [List.size_toArray, Lib.decDigits_length]
  exact nDigits_le 19 n h

theorem fmt_any (n : Nat) (hn : n ≤ 9223372036854775807) (w : World) (ht : Tab w) :
    Calls Tryd.prog 21 #[.int .i64 (n : Int), .int .i64 10] w fun e w' => e = .returned (.string (dig n)) ∧ Kept w w' := by
  refine (Tryd.strconv_FormatInt_10 (n : Int) (by omega) (by omega) w ht).mono ?_
  rintro e w' ⟨rfl, k, os, rfl⟩
  refine ⟨by rw [Lib.itoa_nonneg]; rfl, rfl, rfl, rfl, ?_, fun b hb => ?_⟩
  · simp
  · exact Sort.heap_grow_old (w.drewN k) os hb

set_option maxHeartbeats 400000 in
theorem print_of (x y a b : Nat) (w : World) (ha : a ≤ 4294967296) (hb : b ≤ 4294967296) (ht : Tab w)
    (hx : ∀ w, Calls Tryd.prog 22 #[.float .f64 x] w fun e w' => e = .returned (.int .i64 (a : Int)) ∧ w' = w)
    (hy : ∀ w, Calls Tryd.prog 22 #[.float .f64 y] w fun e w' => e = .returned (.int .i64 (b : Int)) ∧ w' = w) :
    Calls Tryd.prog 12 #[.complex .f64 x y] w fun e w' => e = .returned (.string (dig a ++ ⟨#[58]⟩ ++ dig b)) ∧ Kept w w' := by
  have HX : Hid (∀ w, _) := hx
  have HY : Hid (∀ w, _) := hy
  have HT : Hid (Tab w) := ht
  clear hx hy ht
  have s1 := dig_size a (by omega)
  have s2 := dig_size b (by omega)
  have F1 : Hid (∀ w, Tab w → _) := fmt_any a (by omega)
  have F2 : Hid (∀ w, Tab w → _) := fmt_any b (by omega)
  generalize dig a = A at *
  generalize dig b = B at *
  go_enter Tryd.func12, Tryd.ntmps12
  go_wp2_with fail
  refine (HX.out _).mono ?_
  rintro e w1 ⟨rfl, rfl⟩
  go_wp2_with fail
  refine (F1.out _ HT.out).mono ?_
  rintro e w1 ⟨rfl, q1⟩
  have Q1 : Hid (Kept _ _) := q1
  clear q1
  go_wp2_with fail
  refine (HY.out _).mono ?_
  rintro e w2 ⟨rfl, rfl⟩
  go_wp2_with fail
  refine (F2.out _ (HT.out.kept Q1.out)).mono ?_
  rintro e w2 ⟨rfl, q2⟩
  have Q2 : Hid (Kept _ _) := q2
  clear q2
  go_wp2
  go_ret
  exact ⟨rfl, Q1.out.then Q2.out⟩

end Go.Proofs.YthkooeohhgpkcaaDoor
