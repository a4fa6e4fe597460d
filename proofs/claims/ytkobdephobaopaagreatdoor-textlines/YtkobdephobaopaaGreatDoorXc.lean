/- A program's threads, cut in two; boxes of programs. -/
import Derived.Test.YtkobdephobaopaaGreatDoorSmA
import Derived.Test.YtkobdephobaopaaGreatDoorBs
import Derived.Test.YtkobdephobaopaaGreatDoorSwA
import Derived.Deep.RegionHeld3
import Derived.Deep.DeepCutAuto
namespace Go.Proofs.YtkobdephobaopaaGreatDoor
open Go.RowKit
attribute [local go_sem] run_store_complex
attribute [local go_sem ↓] add_fit

section
variable (w : World) (a : Option Addr) (n cap : Nat)
set_option maxRecDepth 100000 in
theorem cut_t1 (h1 : (1 : Int) ≤ n) : (Instr.sliceAt 25 (.slice a n cap) (some (.int .i64 1)) none none).run Tryz.prog w = .ok (.slice (cutAt a 1 cap 1) (n - 1) (cap - 1)) w :=
  run_cut_l Tryz.underlying25 rfl Tryz.sizeOf38 a n cap 1 (by omega) w
set_option maxRecDepth 100000 in
theorem cut_th1 (h1 : (1 : Int) ≤ cap) : (Instr.sliceAt 25 (.slice a n cap) none (some (.int .i64 1)) none).run Tryz.prog w = .ok (.slice (cutAt a 0 cap 1) 1 cap) w :=
  run_cut_h Tryz.underlying25 rfl Tryz.sizeOf38 a n cap 1 (by omega) w
end
attribute [local go_sem ↓] cut_t1 cut_th1

theorem acts_nil (w : World) (hi : Nat) : ActsR w hi [] (.slice none 0 0) := ⟨none, 0, rfl, Nat.le_refl _, by omega, fun i hi => by simp at hi, fun x hx => by cases hx⟩

theorem TsD.head {w : World} {D : Nat → Prop} {x y : List St} {a : Option Addr} {cap : Nat} (h : TsD w D [x, y] (.slice a 2 cap)) : TsD w D [x] (.slice (cutAt a 0 cap 1) 1 cap) := by
  obtain ⟨a, cap, f, e, h1, h3, h4⟩ := h.out
  cases e
  have hc := h1.le
  obtain ⟨b, o, rfl, hD, hf, hr⟩ := h3 0 (by simp)
  have hc2 : 2 ≤ cap := hc
  refine ⟨cutAt (some ⟨b, o, none⟩) 0 cap 1, cap, f, rfl, ⟨by show 1 ≤ cap; omega, h1.big, fun h => ?_⟩, fun i hi => ?_, fun i hi => ?_⟩
  · rw [cutAt_some (by omega)] at h; cases h
  · obtain rfl : i = 0 := by simpa using hi
    exact ⟨b, o + 0 * 1, cutAt_some (by omega), hD, hf, hr⟩
  · obtain rfl : i = 0 := by simpa using hi
    exact h4 0 (by simp)
theorem TsD.last {w : World} {D : Nat → Prop} {x y : List St} {a : Option Addr} {cap : Nat} (h : TsD w D [x, y] (.slice a 2 cap)) : TsD w D [y] (.slice (cutAt a 1 cap 1) 1 (cap - 1)) := by
  obtain ⟨a, cap, f, e, h1, h3, h4⟩ := h.out
  cases e
  have hc := h1.le
  obtain ⟨b, o, rfl, hD, hf, hr⟩ := h3 1 (by simp)
  have hc2 : 2 ≤ cap := hc
  have hb := h1.big
  refine ⟨cutAt (some ⟨b, o, none⟩) 1 cap 1, cap - 1, fun _ => f 1, rfl, ⟨by show 1 ≤ cap - 1; omega, by omega, fun h => ?_⟩, fun i hi => ?_, fun i hi => ?_⟩
  · rw [cutAt_some (by omega)] at h; cases h
  · obtain rfl : i = 0 := by simpa using hi
    exact ⟨b, o + 1 * 1, cutAt_some (by omega), hD, hf, hr⟩
  · obtain rfl : i = 0 := by simpa using hi
    exact h4 1 (by simp)

theorem cell_new {w : World} (cs : Array Value) (ty n : Nat) (hn : w.heap.size = n) (j : Nat) (v : Value) (h : cs[j]? = some v) : (w.alloc (.cells cs ty)).cell? ⟨n, j, none⟩ = some v := by
  subst hn; simp [h]
theorem box_new (w : World) (x y : Value) (ty : Nat) : BoxS (w.alloc (.cells #[x, y] ty)) w.heap.size [x, y] := by
  refine ⟨fun j v hv => ?_, fun j => by simp, by simp⟩
  rw [Nat.zero_add]
  match j, hv with
  | 0, hv => cases hv; simp
  | 1, hv => cases hv; simp
theorem fin_z {W6 Wp w9 : World} {b : Nat} {v1 v2 : Value} {d : List Dc} {t : List (List St)} (hb : BoxS w9 b [.slice none 0 0, .slice none 0 0]) (hlo : W6.heap.size ≤ b) (hhi : b < Wp.heap.size) (k : Kept W6 w9) (hd : DsIn w9 Wp.heap.size w9.heap.size d v1) (ht : TsIn w9 Wp.heap.size w9.heap.size t v2) {wc : World} (hw : wc = (w9.setCell ⟨b, 0, none⟩ v1).setCell ⟨b, 1, none⟩ v2) :
    wc.cell? ⟨b, 0, none⟩ = some v1 ∧ wc.cell? ⟨b, 1, none⟩ = some v2 ∧ Hid (Kept W6 wc ∧ DsIn wc 0 wc.heap.size d v1 ∧ TsIn wc 0 wc.heap.size t v2) := by
  have hw : wc = w9.setCells b 0 [v1, v2] := hw
  subst hw
  have hr := World.rangeAt_setCells_same w9 b 0 [v1, v2] (hb.there 0 2 (by simp))
  have hs := size_setCells b [v1, v2] 0 w9
  have st : StaysD (Rng Wp.heap.size w9.heap.size) w9 (w9.setCells b 0 [v1, v2]) := fun j hj => heap_setCells _ _ _ _ j (by have := hj.1; omega)
  refine ⟨hr 0 _ rfl, hr 1 _ rfl, Below.setCells k hlo _ _, (hd.stays st).mono (Rng.up (Nat.zero_le _) (by omega)), (ht.stays st).mono (Rng.up (Nat.zero_le _) (by omega))⟩
theorem fin_z' {W6 Wp w9 : World} {v1 v2 : Value} {ty : Nat} {d : List Dc} {t : List (List St)} (k : Kept W6 w9) (hd : DsIn w9 Wp.heap.size w9.heap.size d v1) (ht : TsIn w9 Wp.heap.size w9.heap.size t v2) {wc : World} (hw : wc = w9.alloc (.cells #[v1, v2] ty)) :
    wc.cell? ⟨w9.heap.size, 0, none⟩ = some v1 ∧ wc.cell? ⟨w9.heap.size, 1, none⟩ = some v2 ∧ Hid (Kept W6 wc ∧ DsIn wc 0 wc.heap.size d v1 ∧ TsIn wc 0 wc.heap.size t v2) := by
  subst hw
  exact ⟨cell_new _ _ _ rfl 0 _ rfl, cell_new _ _ _ rfl 1 _ rfl, k.al _, hd.up (Nat.le_refl _) ((Kept.refl _).al _), ht.up (Nat.le_refl _) ((Kept.refl _).al _)⟩
theorem DsD.nil (w : World) (D : Nat → Prop) : DsD w D [] (.slice none 0 0) := ⟨none, 0, rfl, ⟨Nat.le_refl _, Nat.zero_le _, fun _ => rfl⟩, fun i hi => by simp at hi⟩

#print axioms cut_t1
end Go.Proofs.YtkobdephobaopaaGreatDoor
