/- ParseDeep's walk. -/
import Derived.Test.YteaopephdjoegaaDoorKn5
import Derived.Test.YteaopephdjoegaaDoorDp
import Derived.Test.YteaopephdjoegaaDoorHd
import Derived.Laws.RangeString
namespace Go.Proofs.YteaopephdjoegaaDoor
open Go.RowKit
attribute [local go_sem] run_store_complex

theorem ba_app (a b : List UInt8) : (⟨a.toArray⟩ : ByteArray) ++ ⟨b.toArray⟩ = ⟨(a ++ b).toArray⟩ := by
  apply ByteArray.ext
  rw [ByteArray.data_append]
  simp
namespace Dp
/-- The kinds of the blocks. -/
def kd (l : List Int) (i : Nat) : Nat := if i < l.length then (l.getD i 0 % 3).toNat else 0
def ks (l : List Int) (n : Nat) : List Nat := (List.range n).map (kd l)
theorem kd_lt (l : List Int) (i : Nat) : kd l i < 3 := by
  unfold kd
  split
  · have h1 := Int.emod_nonneg (l.getD i 0) (by decide : (3 : Int) ≠ 0)
    have h2 := Int.emod_lt_of_pos (l.getD i 0) (by decide : (0 : Int) < 3)
    omega
  · decide
theorem ks_lt (l : List Int) (n : Nat) : ∀ k ∈ ks l n, k < 3 := by
  intro k hk
  obtain ⟨i, _, rfl⟩ := List.mem_map.1 hk
  exact kd_lt l i
theorem ks_len (l : List Int) (n : Nat) : (ks l n).length = n := by simp [ks]
theorem ks_succ (l : List Int) (n : Nat) : ks l (n + 1) = ks l n ++ [kd l n] := by unfold ks; rw [List.range_succ, List.map_append]; rfl
theorem txt_snoc (a : List Nat) (k : Nat) : txt (a ++ [k]) = txt a ++ opn k := by unfold txt; rw [List.flatMap_append]; simp
theorem split7 (l : List Int) (n : Nat) (h : 8 ≤ n) : ∃ k1 k k2, ks l n = k1 ++ k :: k2 ∧ k1.length = 7 := by
  have hl : 7 < (ks l n).length := by rw [ks_len]; omega
  refine ⟨(ks l n).take 7, (ks l n)[7], (ks l n).drop 8, ?_, by rw [List.length_take]; omega⟩
  rw [← List.drop_eq_getElem_cons hl, List.take_append_drop]
theorem out_deep (ks : List Nat) (h : ∀ k ∈ ks, k < 3) (hl : ks.length ≤ 7) : ∃ b q, Pp.out ⟨(full ks).toArray⟩ = (some ([], [b]), q) := by
  have h1 := txt_len ks h
  obtain ⟨z, hz⟩ := full_toks ks h (by unfold full; rw [List.length_append, List.length_replicate]; omega)
  obtain ⟨b, hb⟩ := full_reads (plOf ⟨(full ks).toArray⟩ ([⟨1, 0, [103, 111], 0⟩, ⟨3, 3, [123], 0⟩] ++ (ots ks 4 ++ (shuts (ks.length + 1) z ++ [⟨4, (full ks).length, [], 0⟩])))) ks h hl
  refine ⟨b, _, Pp.out_good (s := ⟨(full ks).toArray⟩) hz (r := some ([], [b])) (m := [(4, [], 0)]) ?_⟩
  rw [← hb]
  congr 1
  simp only [List.map_append, ots_core ks h, shuts_core]
  unfold L
  rw [List.replicate_succ']
  simp [Lx.Tk.core]
theorem oc_split (k : Nat) (hk : k < 3) (p : Nat) : ∃ t1 t2 r, ot k p = t1 :: t2 :: ⟨3, p + off k, [123], 0⟩ :: r ∧ ((⟨3, p + off k, [123], 0⟩ :: r : List Lx.Tk)).map Lx.Tk.core = (oc k).drop 2 := by
  revert k
  refine three ?_ ?_ ?_
  · exact ⟨_, _, _, rfl, rfl⟩
  · exact ⟨_, _, _, rfl, rfl⟩
  · exact ⟨_, _, _, rfl, rfl⟩
theorem out_fail (k1 k2 : List Nat) (k : Nat) (h : ∀ x ∈ k1 ++ k :: k2, x < 3) (hl : k1.length = 7) (hn : (k1 ++ k :: k2).length ≤ 11) : Pp.out ⟨(full (k1 ++ k :: k2)).toArray⟩ = (none, 4 + (k1.flatMap opn).length + off k) := by
  have h1 := txt_len _ h
  have hk1 : ∀ x ∈ k1, x < 3 := fun x hx => h x (List.mem_append_left _ hx)
  have hk : k < 3 := h k (by simp)
  have hk2 : ∀ x ∈ k2, x < 3 := fun x hx => h x (by simp [hx])
  obtain ⟨z, hz⟩ := full_toks _ h (by unfold full; rw [List.length_append, List.length_replicate]; omega)
  obtain ⟨t1, t2, r, e1, e2⟩ := oc_split k hk (4 + (k1.flatMap opn).length)
  generalize hts : ([⟨1, 0, [103, 111], 0⟩, ⟨3, 3, [123], 0⟩] ++ (ots (k1 ++ k :: k2) 4 ++ (shuts ((k1 ++ k :: k2).length + 1) z ++ [⟨4, (full (k1 ++ k :: k2)).length, [], 0⟩])) : List Lx.Tk) = ts at hz
  obtain ⟨R, hR⟩ : ∃ R : List Lx.Tk, R = ots k2 (4 + (k1.flatMap opn).length + (opn k).length) ++ (shuts ((k1 ++ k :: k2).length + 1) z ++ [⟨4, (full (k1 ++ k :: k2)).length, [], 0⟩]) := ⟨_, rfl⟩
  have hts2 : ts = ([⟨1, 0, [103, 111], 0⟩, ⟨3, 3, [123], 0⟩] ++ (ots k1 4 ++ [t1, t2])) ++ (⟨3, 4 + (k1.flatMap opn).length + off k, [123], 0⟩ :: r ++ R) := by
    rw [← hts, ots_append, ots, e1, hR]; simp
  have hcore : ts.map Lx.Tk.core = Ps.cw Pp.tGo :: Ps.co :: (k1.flatMap oc ++ (oc k ++ R.map Lx.Tk.core)) := by
    rw [← hts, ots_append, ots]
    simp only [List.map_append, ots_core k1 hk1, ots_core k2 hk2, ot_core k _ hk, hR]
    simp [Lx.Tk.core]
  have hp := full_fails (plOf ⟨(full (k1 ++ k :: k2)).toArray⟩ ts) k1 k hk1 hk hl (R.map Lx.Tk.core)
  rw [← hcore] at hp
  rw [Pp.out_good (s := ⟨(full (k1 ++ k :: k2)).toArray⟩) hz hp]
  congr 1
  rw [← e2, ← List.map_append, List.length_map]
  generalize hA : ([⟨1, 0, [103, 111], 0⟩, ⟨3, 3, [123], 0⟩] ++ (ots k1 4 ++ [t1, t2]) : List Lx.Tk) = A at hts2
  have hlen : ts.length - (⟨3, 4 + (k1.flatMap opn).length + off k, [123], 0⟩ :: r ++ R).length = A.length := by rw [hts2, List.length_append]; omega
  rw [hlen, hts2, List.getD_eq_getElem?_getD, List.getElem?_append_right (Nat.le_refl _), Nat.sub_self]
  rfl
end Dp
theorem index_opn (k : Nat) (hk : k < 3) (w : World) : (Instr.index 44 (.agg #[.string ⟨#[32, 105, 102, 32, 120, 32, 123]⟩, .string ⟨#[32, 114, 101, 112, 101, 97, 116, 32, 50, 32, 123]⟩, .string ⟨#[32, 105, 102, 32, 49, 32, 123, 32, 125, 32, 101, 108, 115, 101, 32, 123]⟩]) (.int .i64 (k : Int))).run Tryd.prog w = .ok (.string ⟨(Dp.opn k).toArray⟩) w := by
  have h9 := Tryd.sizeOf9
  have ha := Tryd.isAgg9
  match k, hk with
  | 0, _ => simp [Instr.index, go_sem, h9, ha, Dp.opn]
  | 1, _ => simp [Instr.index, go_sem, h9, ha, Dp.opn]
  | 2, _ => simp [Instr.index, go_sem, h9, ha, Dp.opn]
#print axioms Dp.out_fail
end Go.Proofs.YteaopephdjoegaaDoor
