/- Decls: eight declarations, in memory of their own. -/
import Derived.Test.YteaopephdjoegaaGreatDoorHs
namespace Go.Proofs.YteaopephdjoegaaGreatDoor
open Go.RowKit
attribute [local go_sem] run_store_complex

theorem DsD.row {w : World} {D : Nat → Prop} {g : Nat} (l : List Dc) (hD : D g) (hf : ∀ j, w.frozen? ⟨g, j, none⟩ = false) (hn : l.length ≤ 1000) (hc : ∀ i (_ : i < l.length) j v, l[i].cells[j]? = some v → w.cell? ⟨g, i * 4 + j, none⟩ = some v) :
    DsD w D l (.slice (some ⟨g, 0, none⟩) l.length l.length) := by
  refine ⟨some ⟨g, 0, none⟩, l.length, rfl, ⟨Nat.le_refl _, by unfold maxLen; omega, fun h => by cases h⟩, fun i hi => ⟨g, 0, rfl, hD, hf, fun j v hv => ?_⟩⟩
  rw [Nat.zero_add]
  exact hc i hi j v (by simpa [List.getD, hi] using hv)

theorem alloc_cell (w : World) (cs : Array Value) (e k : Nat) : (w.alloc (.cells cs e)).cell? ⟨w.heap.size, k, none⟩ = cs.toList[k]? := by simp

def d8 (a b : Int) (n : Int) : List Dc := [⟨a, ⟨#[120]⟩, 0, 0, 0⟩, ⟨b, ⟨#[121]⟩, 0, 0, 0⟩, ⟨2, ⟨#[122]⟩, 0, 0, 0⟩, ⟨3, ⟨#[97]⟩, 0, 0, 0⟩, ⟨4, ⟨#[116]⟩, 0, 0, 0⟩, ⟨5, ⟨#[109]⟩, 0, 0, 0⟩, ⟨6, ⟨#[99]⟩, n, 0, 0⟩, ⟨6, ⟨#[100]⟩, 0, 0, 0⟩]

def c8 (a b : Int) (n : Int) : List Value := [.int .i64 a, .string ⟨#[120]⟩, .int .i64 0, .complex .f64 0 0, .int .i64 b, .string ⟨#[121]⟩, .int .i64 0, .complex .f64 0 0, .int .i64 2, .string ⟨#[122]⟩, .int .i64 0, .complex .f64 0 0, .int .i64 3, .string ⟨#[97]⟩, .int .i64 0, .complex .f64 0 0, .int .i64 4, .string ⟨#[116]⟩, .int .i64 0, .complex .f64 0 0, .int .i64 5, .string ⟨#[109]⟩, .int .i64 0, .complex .f64 0 0, .int .i64 6, .string ⟨#[99]⟩, .int .i64 n, .complex .f64 0 0, .int .i64 6, .string ⟨#[100]⟩, .int .i64 0, .complex .f64 0 0]
theorem c8_item (a b n : Int) (i : Nat) (hi : i < (d8 a b n).length) (j : Nat) (v : Value) (h : (d8 a b n)[i].cells[j]? = some v) : (c8 a b n)[i * 4 + j]? = some v := by
  have hj : j < 4 := (List.getElem?_eq_some_iff.1 h).1
  match j, hj with
  | 0, _ =>
    match i, hi with
    | 0, _ | 1, _ | 2, _ | 3, _ | 4, _ | 5, _ | 6, _ | 7, _ => exact h
  | 1, _ =>
    match i, hi with
    | 0, _ | 1, _ | 2, _ | 3, _ | 4, _ | 5, _ | 6, _ | 7, _ => exact h
  | 2, _ =>
    match i, hi with
    | 0, _ | 1, _ | 2, _ | 3, _ | 4, _ | 5, _ | 6, _ | 7, _ => exact h
  | 3, _ =>
    match i, hi with
    | 0, _ | 1, _ | 2, _ | 3, _ | 4, _ | 5, _ | 6, _ | 7, _ => exact h
/-- The cells of a row of declarations. -/
structure C8 (w : World) (g : Nat) (a b n : Int) : Prop where
  cell : ∀ k v, (c8 a b n)[k]? = some v → w.cell? ⟨g, k, none⟩ = some v
  fz : ∀ j, w.frozen? ⟨g, j, none⟩ = false
theorem C8.set0 {w : World} {g : Nat} {a b n : Int} (h : C8 w g a b n) (x : Int) : C8 (w.setCell ⟨g, 0, none⟩ (.int .i64 x)) g x b n := by
  refine ⟨fun k v hv => ?_, fun j => by rw [World.frozen?_setCell]; exact h.fz j⟩
  match k, hv with
  | 0, hv => simp [c8] at hv; subst hv; exact World.cell?_setCell_same _ _ _ (h.cell 0 _ rfl)
  | k + 1, hv => rw [World.cell?_setCell_other _ _ _ _ (by simp)]; exact h.cell (k + 1) v hv
theorem C8.set4 {w : World} {g : Nat} {a b n : Int} (h : C8 w g a b n) (x : Int) : C8 (w.setCell ⟨g, 4, none⟩ (.int .i64 x)) g a x n := by
  refine ⟨fun k v hv => ?_, fun j => by rw [World.frozen?_setCell]; exact h.fz j⟩
  match k, hv with
  | 4, hv => simp [c8] at hv; subst hv; exact World.cell?_setCell_same _ _ _ (h.cell 4 _ rfl)
  | 0, hv | 1, hv | 2, hv | 3, hv => rw [World.cell?_setCell_other _ _ _ _ (by simp)]; exact h.cell _ v hv
  | k + 5, hv => rw [World.cell?_setCell_other _ _ _ _ (by simp)]; exact h.cell (k + 5) v hv
/-- What Decls leaves. -/
def MadeD (w : World) (r : Ending) (w' : World) : Prop :=
  ∃ (d : List Dc) (a : Option Addr) (n q : Nat), r = .returned (.slice a n q) ∧ Hid (DsIn w' w.heap.size w'.heap.size d (.slice a n q) ∧ (d.length = 8 ∧ ∀ x ∈ d, Ps.GdD x) ∧ Kept w w')

theorem d8_good (a b n : Nat) (ha : 1 ≤ a ∧ a ≤ 5) (hb : 1 ≤ b ∧ b ≤ 5) (hn : n ≤ 3) : ∀ x ∈ d8 a b n, Ps.GdD x := by
  intro x hx
  simp only [d8, List.mem_cons, List.not_mem_nil, or_false] at hx
  rcases hx with rfl | rfl | rfl | rfl | rfl | rfl | rfl | rfl
  · exact .plain a [120] 0 0 ha.1 ha.2 (by decide)
  · exact .plain b [121] 0 0 hb.1 hb.2 (by decide)
  · exact .plain 2 [122] 0 0 (by decide) (by decide) (by decide)
  · exact .plain 3 [97] 0 0 (by decide) (by decide) (by decide)
  · exact .plain 4 [116] 0 0 (by decide) (by decide) (by decide)
  · exact .plain 5 [109] 0 0 (by decide) (by decide) (by decide)
  · exact .chan n [99] 0 0 hn (by decide)
  · exact .chan 0 [100] 0 0 (by decide) (by decide)
theorem MadeD.of {w w' : World} (a b n : Nat) (ha : 1 ≤ a ∧ a ≤ 5) (hb : 1 ≤ b ∧ b ≤ 5) (hn : n ≤ 3) (hz : w.heap.size < w'.heap.size) (k : Kept w w') (hc : C8 w' w.heap.size a b n) : MadeD w (.returned (.slice (some ⟨w.heap.size, 0, none⟩) 8 8)) w' :=
  ⟨d8 a b n, some ⟨w.heap.size, 0, none⟩, 8, 8, rfl, DsD.row (d8 a b n) ⟨Nat.le_refl _, hz⟩ hc.fz (by simp [d8]) (fun i hi j v hv => hc.cell _ v (c8_item a b n i hi j v hv)), ⟨rfl, d8_good a b n ha hb hn⟩, k⟩

set_option maxRecDepth 100000 in
set_option maxHeartbeats 4000000 in
theorem decls_any (how : Int) (w : World) (h1 : -9223372036854775808 ≤ how) (h2 : how ≤ 9223372036854775807) : Calls Tryz.prog 31 #[.int .i64 how] w fun r w' => MadeD w r w' := by
  obtain ⟨n, hn, -, hpn⟩ := pick_nat how 3 (by omega) (by omega)
  obtain ⟨p, hp, -, hpp⟩ := pick_nat (how.tdiv 3) 7 (by omega) (by omega)
  have PN : Hid (∀ w, Calls Tryz.prog 16 #[.int .i64 how, .int .i64 3] w fun e w' => e = .returned (.int .i64 (n : Int)) ∧ w' = w) := hpn
  have PP : Hid (∀ w, Calls Tryz.prog 16 #[.int .i64 (how.tdiv 3), .int .i64 7] w fun e w' => e = .returned (.int .i64 (p : Int)) ∧ w' = w) := hpp
  have hn3 : n ≤ 3 := by omega
  clear hpn hpp hn
  obtain ⟨W1, hW1⟩ : ∃ W1, w.alloc (.cells #[.int .i64 1, .string ⟨#[120]⟩, .int .i64 0, .complex .f64 0 0, .int .i64 1, .string ⟨#[121]⟩, .int .i64 0, .complex .f64 0 0, .int .i64 2, .string ⟨#[122]⟩, .int .i64 0, .complex .f64 0 0, .int .i64 3, .string ⟨#[97]⟩, .int .i64 0, .complex .f64 0 0, .int .i64 4, .string ⟨#[116]⟩, .int .i64 0, .complex .f64 0 0, .int .i64 5, .string ⟨#[109]⟩, .int .i64 0, .complex .f64 0 0, .int .i64 6, .string ⟨#[99]⟩, .int .i64 (n : Int), .complex .f64 0 0, .int .i64 6, .string ⟨#[100]⟩, .int .i64 0, .complex .f64 0 0] 40) = W1 := ⟨_, rfl⟩
  have HC : Hid (C8 W1 w.heap.size 1 1 n ∧ Kept w W1 ∧ W1.heap.size = w.heap.size + 1) := by
    rw [← hW1]
    refine ⟨⟨fun k v hv => ?_, fun j => by simp⟩, (Kept.refl _).al _, by simp⟩
    exact (alloc_cell w _ _ k).trans hv
  have c0 : W1.cell? ⟨w.heap.size, 0, none⟩ = some (.int .i64 1) := HC.out.1.cell 0 _ rfl
  have c4 : W1.cell? ⟨w.heap.size, 4, none⟩ = some (.int .i64 1) := HC.out.1.cell 4 _ rfl
  have cf : ∀ j, W1.frozen? ⟨w.heap.size, j, none⟩ = false := HC.out.1.fz
  have hz : W1.heap.size = w.heap.size + 1 := HC.out.2.2
  have HZ : Hid _ := hz
  have hzl : w.heap.size < W1.heap.size := by omega
  clear hz
  by_cases h4 : p = 4
  · subst h4
    go_enter Tryz.func31, Tryz.ntmps31
    go_wp2_with fail
    refine (PN.out _).mono ?_
    rintro e w' ⟨rfl, rfl⟩
    go_wp2_with fail
    refine (PP.out _).mono ?_
    rintro e w' ⟨rfl, rfl⟩
    clear PN PP hW1
    go_wp2_with fail
    go_ret
    exact MadeD.of 2 1 n (by decide) (by decide) hn3 (by have := hzl; simpa [World.setCell] using this) (Below.setCell HC.out.2.1 (Nat.le_refl _) _) (HC.out.1.set0 2)
  have g4 : ((p : Int) == 4) = false := by rw [beq_eq_false_iff_ne]; omega
  by_cases h5 : p = 5
  · subst h5
    go_enter Tryz.func31, Tryz.ntmps31
    go_wp2_with fail
    refine (PN.out _).mono ?_
    rintro e w' ⟨rfl, rfl⟩
    go_wp2_with fail
    refine (PP.out _).mono ?_
    rintro e w' ⟨rfl, rfl⟩
    clear PN PP hW1
    go_wp2_with fail
    go_ret
    exact MadeD.of 1 2 n (by decide) (by decide) hn3 (by have := hzl; simpa [World.setCell] using this) (Below.setCell HC.out.2.1 (Nat.le_refl _) _) (HC.out.1.set4 2)
  have g5 : ((p : Int) == 5) = false := by rw [beq_eq_false_iff_ne]; omega
  by_cases h6 : p = 6
  · subst h6
    go_enter Tryz.func31, Tryz.ntmps31
    go_wp2_with fail
    refine (PN.out _).mono ?_
    rintro e w' ⟨rfl, rfl⟩
    go_wp2_with fail
    refine (PP.out _).mono ?_
    rintro e w' ⟨rfl, rfl⟩
    clear PN PP hW1
    go_wp2_with fail
    go_ret
    exact MadeD.of 3 1 n (by decide) (by decide) hn3 (by have := hzl; simpa [World.setCell] using this) (Below.setCell HC.out.2.1 (Nat.le_refl _) _) (HC.out.1.set0 3)
  · have g6 : ((p : Int) == 6) = false := by rw [beq_eq_false_iff_ne]; omega
    go_enter Tryz.func31, Tryz.ntmps31
    go_wp2_with fail
    refine (PN.out _).mono ?_
    rintro e w' ⟨rfl, rfl⟩
    go_wp2_with fail
    refine (PP.out _).mono ?_
    rintro e w' ⟨rfl, rfl⟩
    clear PN PP hW1
    go_wp2_with fail
    go_ret
    exact MadeD.of 1 1 n (by decide) (by decide) hn3 hzl HC.out.2.1 HC.out.1
#print axioms decls_any
end Go.Proofs.YteaopephdjoegaaGreatDoor
