/- short: an expression of at most three parts; acts that came in. -/
import Derived.Test.YteaopephdjoegaaGreatDoorHe
namespace Go.Proofs.YteaopephdjoegaaGreatDoor
open Go.RowKit
attribute [local go_sem] run_store_complex
attribute [local go_sem ↓] cut_i3 cut_a16

/-- A raw statement. -/
structure Ac where
  what : Int
  a : Int
  b : Int
  n : Int
  e : List Int
/-- Its numbers are within their kind. -/
def Ac.inR (x : Ac) : Prop := (-9223372036854775808 ≤ x.what ∧ x.what ≤ 9223372036854775807) ∧ (-9223372036854775808 ≤ x.a ∧ x.a ≤ 9223372036854775807) ∧ (-9223372036854775808 ≤ x.b ∧ x.b ≤ 9223372036854775807) ∧ (-9223372036854775808 ≤ x.n ∧ x.n ≤ 9223372036854775807)
/-- Raw statements lie in memory, as the slice v says, in blocks below hi. -/
structure ActsR (w : World) (hi : Nat) (l : List Ac) (v : Value) : Prop where
  out : ∃ (a : Option Addr) (cap : Nat), v = .slice a l.length cap ∧ l.length ≤ cap ∧ cap ≤ 9223372036854775807 ∧ (∀ i (_ : i < l.length), ∃ b o a1 n1 q1, a = some ⟨b, o, none⟩ ∧ b < hi ∧ w.cell? ⟨b, o + i * 5, none⟩ = some (.int .i64 l[i].what) ∧ w.cell? ⟨b, o + i * 5 + 1, none⟩ = some (.int .i64 l[i].a) ∧ w.cell? ⟨b, o + i * 5 + 2, none⟩ = some (.int .i64 l[i].b) ∧ w.cell? ⟨b, o + i * 5 + 3, none⟩ = some (.int .i64 l[i].n) ∧ w.cell? ⟨b, o + i * 5 + 4, none⟩ = some (.slice a1 n1 q1) ∧ IntsR w hi l[i].e (.slice a1 n1 q1)) ∧ ∀ x ∈ l, x.inR
theorem ActsR.kept {w w' : World} {hi : Nat} {l : List Ac} {v : Value} (h : ActsR w hi l v) (k : Kept w w') : ActsR w' hi l v := by
  obtain ⟨a, cap, e, h1, h2, h3, h4⟩ := h.out
  refine ⟨a, cap, e, h1, h2, fun i hi => ?_, h4⟩
  obtain ⟨b, o, a1, n1, q1, e1, e2, e3, e4, e5, e6, e7, e8⟩ := h3 i hi
  exact ⟨b, o, a1, n1, q1, e1, e2, k.cellS e3, k.cellS e4, k.cellS e5, k.cellS e6, k.cellS e7, e8.kept k⟩
theorem ActsR.cut {w : World} {hi : Nat} {l : List Ac} {a : Option Addr} {n cap : Nat} (h : ActsR w hi l (.slice a n cap)) (i j : Nat) (hij : i ≤ j) (hj : j ≤ l.length) : ActsR w hi ((l.take j).drop i) (.slice (cutAt a i cap 5) (j - i) (cap - i)) := by
  obtain ⟨a, cap, e, h1, h2, h3, h4⟩ := h.out
  cases e
  have hlen : ((l.take j).drop i).length = j - i := by rw [List.length_drop, List.length_take]; omega
  refine ⟨cutAt a i cap 5, cap - i, by rw [hlen], by rw [hlen]; omega, by omega, fun k hk => ?_, fun x hx => h4 x (List.mem_of_mem_take (List.mem_of_mem_drop hx))⟩
  rw [hlen] at hk
  obtain ⟨b, o, a1, n1, q1, rfl, e2, e3, e4, e5, e6, e7, e8⟩ := h3 (i + k) (by omega)
  have hg : ((l.take j).drop i)[k]'(by rw [hlen]; exact hk) = l[i + k]'(by omega) := by simp [List.getElem_drop, List.getElem_take]
  rw [hg]
  have ho : o + i * 5 + k * 5 = o + (i + k) * 5 := by omega
  refine ⟨b, o + i * 5, a1, n1, q1, cutAt_some (by omega), e2, ?_⟩
  rw [ho]
  exact ⟨e3, e4, e5, e6, e7, e8⟩

set_option maxRecDepth 100000 in
set_option maxHeartbeats 2000000 in
theorem short_any (x : Ac) (w : World) (ev : Value) (he : IntsR w w.heap.size x.e ev) :
    Calls Tryz.prog 54 #[.agg #[.int .i64 x.what, .int .i64 x.a, .int .i64 x.b, .int .i64 x.n, ev]] w fun r w' => MadeE w 3 r w' := by
  have HA : Hid _ := he
  obtain ⟨a, cap, rfl, hc1, hc2, -, -⟩ := he.out
  clear he
  obtain ⟨W0, hW0⟩ : ∃ W0, (w.alloc (.cells #[.int .i64 x.what, .int .i64 x.a, .int .i64 x.b, .int .i64 x.n, .slice a x.e.length cap] 111)).alloc (.cells #[.int .i64 0, .int .i64 0, .string ⟨#[]⟩, .slice none 0 0] 79) = W0 := ⟨_, rfl⟩
  have HW0 : Hid (Kept w W0 ∧ W0.heap.size = w.heap.size + 2 ∧ W0.cell? ⟨w.heap.size + 1, 0, none⟩ = some (.int .i64 0) ∧ W0.cell? ⟨w.heap.size + 1, 1, none⟩ = some (.int .i64 0) ∧ W0.cell? ⟨w.heap.size + 1, 2, none⟩ = some (.string ⟨#[]⟩) ∧ W0.cell? ⟨w.heap.size + 1, 3, none⟩ = some (.slice none 0 0) ∧ ∀ j, W0.frozen? ⟨w.heap.size + 1, j, none⟩ = false) := by
    rw [← hW0]
    exact ⟨((Kept.refl _).al _).al _, by simp, by simp, by simp, by simp, by simp, by simp⟩
  have b4 : W0.cell? ⟨w.heap.size, 4, none⟩ = some (.slice a x.e.length cap) := by rw [← hW0]; simp
  have PE : Hid (∀ (l : List Int) (v : Value), IntsR w w.heap.size l v → l.length ≤ 3 → Calls Tryz.prog 75 #[v, .int .i64 0] W0 fun r w' => ∃ (e1 : Ex) (a1 : Option Addr) (n1 q1 : Nat), r = .returned (.agg #[.int .i64 e1.kind, .int .i64 e1.n, .string e1.name, .slice a1 n1 q1]) ∧ Hid (ExsIn w' W0.heap.size w'.heap.size e1.of (.slice a1 n1 q1) ∧ (e1.size ≤ 7 ∧ Px.Sx e1) ∧ Kept W0 w') ∧
      w'.cell? ⟨w.heap.size + 1, 0, none⟩ = some (.int .i64 0) ∧ w'.cell? ⟨w.heap.size + 1, 1, none⟩ = some (.int .i64 0) ∧ w'.cell? ⟨w.heap.size + 1, 2, none⟩ = some (.string ⟨#[]⟩) ∧ w'.cell? ⟨w.heap.size + 1, 3, none⟩ = some (.slice none 0 0) ∧ ∀ j, w'.frozen? ⟨w.heap.size + 1, j, none⟩ = false) := by
    intro l v hv hl
    refine (expr_any 3 l W0 v 0 hl ((hv.kept HW0.out.1).mono HW0.out.1.size) (by omega) (by omega) (by omega)).mono ?_
    rintro r w1 ⟨e1, v1, rfl, h1, ⟨h2, h2s⟩, h3⟩
    obtain ⟨a1, n1, q1, rfl⟩ := h1.form
    obtain ⟨_, hz, z0, z1, z2, z3, zf⟩ := HW0.out
    exact ⟨e1, a1, n1, q1, rfl, ⟨h1, ⟨by omega, h2s⟩, h3⟩, h3.cellS z0, h3.cellS z1, h3.cellS z2, h3.cellS z3, fun j => (h3.frozen (by simp; omega)).trans (zf j)⟩
  by_cases h3 : x.e.length ≤ 3
  · have g3 : ¬ (3 : Int) < (x.e.length : Int) := by omega
    go_enter Tryz.func54, Tryz.ntmps54
    go_wp2_with fail
    refine (PE.out x.e _ HA.out h3).mono ?_
    rintro r w1 ⟨e1, a1, n1, q1, rfl, HV, z0, z1, z2, z3, zf⟩
    go_wp2_with fail
    have HT : w1.there (w.heap.size + 1) 0 4 := there_of 4 (fun j hj => by
      match j, hj with
      | 0, _ => exact ⟨_, z0⟩
      | 1, _ => exact ⟨_, z1⟩
      | 2, _ => exact ⟨_, z2⟩
      | 3, _ => exact ⟨_, z3⟩) zf
    have hz := size_setCells (w.heap.size + 1) (e1.cells (.slice a1 n1 q1)) 0 w1
    have h2 := HW0.out.2.1
    refine bodyPost_ret (v := e1.val (.slice a1 n1 q1)) (w := w1.setCells (w.heap.size + 1) 0 (e1.cells (.slice a1 n1 q1))) (results_cell_mid (P := Tryz.prog) Tryz.results54 _ _ (w.heap.size + 1) 0 _ _ rfl (World.rangeAt_setCells_same _ _ _ _ HT) Tryz.underlying79 rfl esizeEx) rfl ⟨e1, _, rfl, ?_, HV.out.2.1, Below.setCells (HW0.out.1.then HV.out.2.2) (by omega) _ _⟩
    exact (HV.out.1.stays fun i hi => heap_setCells _ _ _ _ i (by have := hi.1; omega)).mono (Rng.up (by omega) (by omega))
  · have g3 : (3 : Int) < (x.e.length : Int) := by omega
    have g4 : (3 : Int) ≤ (cap : Int) := by omega
    have hcut := HA.out.cut 0 3 (by omega) (by omega)
    rw [Nat.sub_zero, Nat.sub_zero] at hcut
    have HC : Hid _ := PE.out _ _ hcut (by simp; omega)
    clear hcut
    go_enter Tryz.func54, Tryz.ntmps54
    go_wp2_with fail
    refine Calls.mono HC.out ?_
    rintro r w1 ⟨e1, a1, n1, q1, rfl, HV, z0, z1, z2, z3, zf⟩
    go_wp2_with fail
    have HT : w1.there (w.heap.size + 1) 0 4 := there_of 4 (fun j hj => by
      match j, hj with
      | 0, _ => exact ⟨_, z0⟩
      | 1, _ => exact ⟨_, z1⟩
      | 2, _ => exact ⟨_, z2⟩
      | 3, _ => exact ⟨_, z3⟩) zf
    have hz := size_setCells (w.heap.size + 1) (e1.cells (.slice a1 n1 q1)) 0 w1
    have h2 := HW0.out.2.1
    refine bodyPost_ret (v := e1.val (.slice a1 n1 q1)) (w := w1.setCells (w.heap.size + 1) 0 (e1.cells (.slice a1 n1 q1))) (results_cell_mid (P := Tryz.prog) Tryz.results54 _ _ (w.heap.size + 1) 0 _ _ rfl (World.rangeAt_setCells_same _ _ _ _ HT) Tryz.underlying79 rfl esizeEx) rfl ⟨e1, _, rfl, ?_, HV.out.2.1, Below.setCells (HW0.out.1.then HV.out.2.2) (by omega) _ _⟩
    exact (HV.out.1.stays fun i hi => heap_setCells _ _ _ _ i (by have := hi.1; omega)).mono (Rng.up (by omega) (by omega))
#print axioms short_any

set_option maxHeartbeats 400000 in
theorem acts_any (l : List Ac) (w : World) (hi : Nat) (v : Value) (h : ActsR w hi l v) :
    Calls Tryz.prog 33 #[v] w fun r w' => ∃ l' a' n' q', r = .returned (.slice a' n' q') ∧ ActsR w hi l' (.slice a' n' q') ∧ l'.length ≤ 16 ∧ w' = w := by
  have HA : Hid _ := h
  obtain ⟨a, cap, rfl, hc1, hc2, -, -⟩ := h.out
  clear h
  by_cases h3 : l.length ≤ 16
  · have g3 : ¬ (16 : Int) < (l.length : Int) := by omega
    go_enter Tryz.func33, Tryz.ntmps33
    go_wp2_with fail
    go_ret
    exact ⟨l, _, _, _, rfl, HA.out, h3, rfl⟩
  · have g3 : (16 : Int) < (l.length : Int) := by omega
    have g4 : (16 : Int) ≤ (cap : Int) := by omega
    go_enter Tryz.func33, Tryz.ntmps33
    go_wp2_with fail
    go_ret
    have hcut := HA.out.cut 0 16 (by omega) (by omega)
    rw [Nat.sub_zero, Nat.sub_zero] at hcut
    exact ⟨_, _, _, _, rfl, hcut, by simp; omega, rfl⟩
#print axioms acts_any
end Go.Proofs.YteaopephdjoegaaGreatDoor
