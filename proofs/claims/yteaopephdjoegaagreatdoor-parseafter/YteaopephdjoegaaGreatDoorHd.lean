/- The statements' own makers: Pick, plain; cuts of slices. -/
import Derived.Test.YteaopephdjoegaaGreatDoorRows
import Derived.Test.YteaopephdjoegaaGreatDoorPlA
import Derived.WalkKit
import Derived.WalkSpells
import Derived.WalkLawsBesides
import Derived.Test.YteaopephdjoegaaGreatDoorAp
import Derived.Deep.RegionWith
import Derived.Deep.RegionHeld3
namespace Go.Proofs.YteaopephdjoegaaGreatDoor
open Go.RowKit
attribute [local go_sem] run_store_complex


set_option maxHeartbeats 400000 in
theorem pick_emod (n m : Int) (w : World) (hm : 0 < m) (hm2 : m ≤ 4611686018427387904) :
    Calls Tryz.prog 16 #[.int .i64 n, .int .i64 m] w fun e w' => e = .returned (.int .i64 (n % m)) ∧ w' = w := by
  have e1 := tmod_pos n m hm
  obtain ⟨b1, b2⟩ := tmod_lt n m hm
  have H : Hid (n % m = if n.tmod m < 0 then n.tmod m + m else n.tmod m) := e1
  clear e1
  have hz : (m == 0) = false := by simp; omega
  go_enter Tryz.func16, Tryz.ntmps16
  go_wp2
  all_goals
    go_ret
    refine ⟨ret_int ?_, rfl⟩
    rw [H.out]
    first | rw [if_pos (by omega)] | rw [if_neg (by omega)]

/-- Pick's answer as a number of its own. -/
theorem pick_nat (n : Int) (m : Nat) (hm : 0 < m) (hm2 : m ≤ 1000) : ∃ k : Nat, k < m ∧ n % (m : Int) = k ∧ ∀ w, Calls Tryz.prog 16 #[.int .i64 n, .int .i64 (m : Int)] w fun e w' => e = .returned (.int .i64 (k : Int)) ∧ w' = w := by
  have h2 := Int.emod_nonneg n (by omega : (m : Int) ≠ 0)
  have h3 := Int.emod_lt_of_pos n (by omega : (0 : Int) < m)
  obtain ⟨k, hk⟩ := Int.eq_ofNat_of_zero_le h2
  refine ⟨k, by omega, hk, fun w => ?_⟩
  have := pick_emod n m w (by omega) (by omega)
  rwa [hk] at this

theorem index_eight (A B C D E F G H : ByteArray) (k : Nat) (hk : k < 8) : ∃ X, (X = A ∨ X = B ∨ X = C ∨ X = D ∨ X = E ∨ X = F ∨ X = G ∨ X = H) ∧ ∀ w, (Instr.index 136 (.agg #[.string A, .string B, .string C, .string D, .string E, .string F, .string G, .string H]) (.int .i64 (k : Int))).run Tryz.prog w = .ok (.string X) w := by
  have h9 := Tryz.sizeOf9
  have ha := Tryz.isAgg9
  match k, hk with
  | 0, _ => exact ⟨A, by simp, fun w => by simp [Instr.index, go_sem, h9, ha]⟩
  | 1, _ => exact ⟨B, by simp, fun w => by simp [Instr.index, go_sem, h9, ha]⟩
  | 2, _ => exact ⟨C, by simp, fun w => by simp [Instr.index, go_sem, h9, ha]⟩
  | 3, _ => exact ⟨D, by simp, fun w => by simp [Instr.index, go_sem, h9, ha]⟩
  | 4, _ => exact ⟨E, by simp, fun w => by simp [Instr.index, go_sem, h9, ha]⟩
  | 5, _ => exact ⟨F, by simp, fun w => by simp [Instr.index, go_sem, h9, ha]⟩
  | 6, _ => exact ⟨G, by simp, fun w => by simp [Instr.index, go_sem, h9, ha]⟩
  | 7, _ => exact ⟨H, by simp, fun w => by simp [Instr.index, go_sem, h9, ha]⟩
theorem index_two (A B : ByteArray) (k : Nat) (hk : k < 2) : ∃ X, (X = A ∨ X = B) ∧ ∀ w, (Instr.index 113 (.agg #[.string A, .string B]) (.int .i64 (k : Int))).run Tryz.prog w = .ok (.string X) w := by
  have h9 := Tryz.sizeOf9
  have ha := Tryz.isAgg9
  match k, hk with
  | 0, _ => exact ⟨A, by simp, fun w => by simp [Instr.index, go_sem, h9, ha]⟩
  | 1, _ => exact ⟨B, by simp, fun w => by simp [Instr.index, go_sem, h9, ha]⟩
set_option maxRecDepth 100000 in
set_option maxHeartbeats 400000 in
theorem plain_any (n : Int) : ∃ t : List UInt8, (Px.isNm t = true ∧ t.length = 1) ∧ ∀ w, Calls Tryz.prog 53 #[.int .i64 n] w fun e w' => e = .returned (.string (Px.ba t)) ∧ w' = w := by
  obtain ⟨k, hk, -, hp⟩ := pick_nat n 8 (by omega) (by omega)
  obtain ⟨X, hXX, hX⟩ := index_eight ⟨#[120]⟩ ⟨#[120]⟩ ⟨#[121]⟩ ⟨#[122]⟩ ⟨#[97]⟩ ⟨#[116]⟩ ⟨#[120]⟩ ⟨#[121]⟩ k hk
  have hX2 : ∃ t : List UInt8, (Px.isNm t = true ∧ t.length = 1) ∧ X = Px.ba t := by
    rcases hXX with rfl | rfl | rfl | rfl | rfl | rfl | rfl | rfl
    · exact ⟨[120], by decide, rfl⟩
    · exact ⟨[120], by decide, rfl⟩
    · exact ⟨[121], by decide, rfl⟩
    · exact ⟨[122], by decide, rfl⟩
    · exact ⟨[97], by decide, rfl⟩
    · exact ⟨[116], by decide, rfl⟩
    · exact ⟨[120], by decide, rfl⟩
    · exact ⟨[121], by decide, rfl⟩
  obtain ⟨t, ht, rfl⟩ := hX2
  refine ⟨t, ht, fun w => ?_⟩
  generalize Px.ba t = X at *
  clear hXX ht
  have P : Hid (∀ w, Calls Tryz.prog 16 #[.int .i64 n, .int .i64 8] w fun e w' => e = .returned (.int .i64 (k : Int)) ∧ w' = w) := hp
  clear hp
  go_enter Tryz.func53, Tryz.ntmps53
  go_wp2_with fail
  refine (P.out _).mono ?_
  rintro e w' ⟨rfl, rfl⟩
  go_wp2_with fail
  go_ret
  exact ⟨rfl, rfl⟩
#print axioms plain_any

/-! ### Slices that are only read -/
/-- Numbers lie in memory, as the slice v says, in blocks below hi. -/
structure IntsR (w : World) (hi : Nat) (l : List Int) (v : Value) : Prop where
  out : ∃ (a : Option Addr) (cap : Nat), v = .slice a l.length cap ∧ l.length ≤ cap ∧ cap ≤ 9223372036854775807 ∧ (∀ i (_ : i < l.length), ∃ b o, a = some ⟨b, o, none⟩ ∧ b < hi ∧ w.cell? ⟨b, o + i, none⟩ = some (.int .i64 l[i])) ∧ ∀ x ∈ l, -9223372036854775808 ≤ x ∧ x ≤ 9223372036854775807
theorem IntsR.kept {w w' : World} {hi : Nat} {l : List Int} {v : Value} (h : IntsR w hi l v) (k : Kept w w') : IntsR w' hi l v := by
  obtain ⟨a, cap, e, h1, h2, h3, h4⟩ := h.out
  refine ⟨a, cap, e, h1, h2, fun i hi => ?_, h4⟩
  obtain ⟨b, o, e1, e2, e3⟩ := h3 i hi
  exact ⟨b, o, e1, e2, k.cellS e3⟩
theorem IntsR.mono {w : World} {hi hi' : Nat} {l : List Int} {v : Value} (h : IntsR w hi l v) (k : hi ≤ hi') : IntsR w hi' l v := by
  obtain ⟨a, cap, e, h1, h2, h3, h4⟩ := h.out
  refine ⟨a, cap, e, h1, h2, fun i hi => ?_, h4⟩
  obtain ⟨b, o, e1, e2, e3⟩ := h3 i hi
  exact ⟨b, o, e1, by omega, e3⟩

/-- Where a cut begins. -/
def cutAt (a : Option Addr) (l cap sz : Nat) : Option Addr := if cap = l then a else a.map (·.add (l * sz))
theorem cutAt_some {b o l cap sz : Nat} (h : l < cap) : cutAt (some ⟨b, o, none⟩) l cap sz = some ⟨b, o + l * sz, none⟩ := by
  unfold cutAt; rw [if_neg (by omega)]; simp [Addr.add_mid]

theorem run_cut_l {t e : TypeId} {sz : Nat} (hu : Tryz.prog.underlying t = some (.slice e)) (he : Tryz.prog.elem t = e) (hs : ∀ w, (sizeOf e).run Tryz.prog w = .ok sz w) (a : Option Addr) (n cap l : Nat) (h1 : l ≤ n) (w : World) :
    (Instr.sliceAt t (.slice a n cap) (some (.int .i64 (l : Int))) none none).run Tryz.prog w = .ok (.slice (cutAt a l cap sz) (n - l) (cap - l)) w := by
  have hu' : Tryz.prog.underlying t = some (.slice (Tryz.prog.elem t)) := by rw [he]; exact hu
  rw [run_sliceAt_slice _ _ _ _ _ _ hu', run_slice_l _ _ _ _ _ hu' _ _ (by omega) (by omega), he, hs]
  simp [sliced, cutAt]
theorem run_cut_h {t e : TypeId} {sz : Nat} (hu : Tryz.prog.underlying t = some (.slice e)) (he : Tryz.prog.elem t = e) (hs : ∀ w, (sizeOf e).run Tryz.prog w = .ok sz w) (a : Option Addr) (n cap h : Nat) (h1 : h ≤ cap) (w : World) :
    (Instr.sliceAt t (.slice a n cap) none (some (.int .i64 (h : Int))) none).run Tryz.prog w = .ok (.slice (cutAt a 0 cap sz) h cap) w := by
  have hu' : Tryz.prog.underlying t = some (.slice (Tryz.prog.elem t)) := by rw [he]; exact hu
  rw [run_sliceAt_slice _ _ _ _ _ _ hu', run_slice_h _ _ _ _ _ hu' _ _ (by omega) (by omega), he, hs]
  simp [sliced, cutAt]
theorem run_cut_lh {t e : TypeId} {sz : Nat} (hu : Tryz.prog.underlying t = some (.slice e)) (he : Tryz.prog.elem t = e) (hs : ∀ w, (sizeOf e).run Tryz.prog w = .ok sz w) (a : Option Addr) (n cap l h : Nat) (h1 : l ≤ h) (h2 : h ≤ cap) (w : World) :
    (Instr.sliceAt t (.slice a n cap) (some (.int .i64 (l : Int))) (some (.int .i64 (h : Int))) none).run Tryz.prog w = .ok (.slice (cutAt a l cap sz) (h - l) (cap - l)) w := by
  have hu' : Tryz.prog.underlying t = some (.slice (Tryz.prog.elem t)) := by rw [he]; exact hu
  rw [run_sliceAt_slice _ _ _ _ _ _ hu', run_slice_lh _ _ _ _ _ hu' _ _ _ _ (by omega) (by omega) (by omega), he, hs]
  simp [sliced, cutAt]

theorem IntsR.cut {w : World} {hi : Nat} {l : List Int} {a : Option Addr} {n cap : Nat} (h : IntsR w hi l (.slice a n cap)) (i j : Nat) (hij : i ≤ j) (hj : j ≤ l.length) : IntsR w hi ((l.take j).drop i) (.slice (cutAt a i cap 1) (j - i) (cap - i)) := by
  obtain ⟨a, cap, e, h1, h2, h3, h4⟩ := h.out
  cases e
  have hlen : ((l.take j).drop i).length = j - i := by rw [List.length_drop, List.length_take]; omega
  refine ⟨cutAt a i cap 1, cap - i, by rw [hlen], by rw [hlen]; omega, by omega, fun k hk => ?_, fun x hx => h4 x (List.mem_of_mem_take (List.mem_of_mem_drop hx))⟩
  rw [hlen] at hk
  obtain ⟨b, o, rfl, e2, e3⟩ := h3 (i + k) (by omega)
  refine ⟨b, o + i * 1, cutAt_some (by omega), e2, ?_⟩
  rw [show o + i * 1 + k = o + (i + k) by omega, e3]
  simp [List.getElem_drop, List.getElem_take]
#print axioms IntsR.cut
end Go.Proofs.YteaopephdjoegaaGreatDoor
