/- Bl -/
import Derived.Test.YtnfkjmafhaecgaaZBh

namespace Go.Proofs.Ytnfkjmafhaecgaa
open Go.RowKit Bn
attribute [local go_sem] run_store_complex
theorem range11 {w : World} {b o : Nat} {v0 v1 v2 v3 v4 v5 v6 v7 v8 v9 v10 : Value} (c0 : w.cell? ⟨b, o, none⟩ = some v0) (c1 : w.cell? ⟨b, o + 1, none⟩ = some v1) (c2 : w.cell? ⟨b, o + 2, none⟩ = some v2) (c3 : w.cell? ⟨b, o + 3, none⟩ = some v3) (c4 : w.cell? ⟨b, o + 4, none⟩ = some v4) (c5 : w.cell? ⟨b, o + 5, none⟩ = some v5) (c6 : w.cell? ⟨b, o + 6, none⟩ = some v6) (c7 : w.cell? ⟨b, o + 7, none⟩ = some v7) (c8 : w.cell? ⟨b, o + 8, none⟩ = some v8) (c9 : w.cell? ⟨b, o + 9, none⟩ = some v9) (c10 : w.cell? ⟨b, o + 10, none⟩ = some v10) : w.rangeAt b o [v0, v1, v2, v3, v4, v5, v6, v7, v8, v9, v10] := by
  intro j v hv
  rcases j with _ | _ | _ | _ | _ | _ | _ | _ | _ | _ | _ | j
  · cases hv; exact c0
  · cases hv; exact c1
  · cases hv; exact c2
  · cases hv; exact c3
  · cases hv; exact c4
  · cases hv; exact c5
  · cases hv; exact c6
  · cases hv; exact c7
  · cases hv; exact c8
  · cases hv; exact c9
  · cases hv; exact c10
  · simp at hv
theorem StsD.one {w : World} {D : Nat → Prop} {g : Nat} {s : St} {e b l : Value} (hD : D g)
    (hg : w.heap[g]? = some (.cells #[.int .i64 s.kind, .string s.name, .string s.other, .int .i64 s.n, .int .i64 s.e.kind, .int .i64 s.e.n, .string s.e.name, e, b, l, .complex .f64 s.re s.im] 46 (0, 0)))
    (he : ExsD w D s.e.of e) (hb : StsD w D s.body b) (hl : StsD w D s.els l) : StsD w D [s] (.slice (some ⟨g, 0, none⟩) 1 1) := by
  refine .mk [s] (some ⟨g, 0, none⟩) 1 (fun _ => e) (fun _ => b) (fun _ => l) ⟨Nat.le_refl _, by unfold maxLen; omega, fun h => by cases h⟩ (fun i hi => ?_) (fun i hi => ?_) (fun i hi => ?_) fun i hi => ?_
  · refine ⟨g, 0, rfl, hD, fun j => frozen_of_row w g j _ _ hg, ?_⟩
    have c : ∀ k v, (#[Value.int .i64 s.kind, .string s.name, .string s.other, .int .i64 s.n, .int .i64 s.e.kind, .int .i64 s.e.n, .string s.e.name, e, b, l, .complex .f64 s.re s.im] : Array Value)[k]? = some v → w.cell? ⟨g, k, none⟩ = some v := fun k v h => by rw [cell_of_row w g _ _ _ (0, 0) hg]; simpa using h
    match i, hi with
    | 0, _ => exact range11 (c _ _ rfl) (c _ _ rfl) (c _ _ rfl) (c _ _ rfl) (c _ _ rfl) (c _ _ rfl) (c _ _ rfl) (c _ _ rfl) (c _ _ rfl) (c _ _ rfl) (c _ _ rfl)
  · match i, hi with
    | 0, _ => exact he
  · match i, hi with
    | 0, _ => exact hb
  · match i, hi with
    | 0, _ => exact hl
theorem StsD.two {w : World} {D : Nat → Prop} {g : Nat} {s t : St} {e b l e' b' l' : Value} (hD : D g)
    (hg : w.heap[g]? = some (.cells #[.int .i64 s.kind, .string s.name, .string s.other, .int .i64 s.n, .int .i64 s.e.kind, .int .i64 s.e.n, .string s.e.name, e, b, l, .complex .f64 s.re s.im, .int .i64 t.kind, .string t.name, .string t.other, .int .i64 t.n, .int .i64 t.e.kind, .int .i64 t.e.n, .string t.e.name, e', b', l', .complex .f64 t.re t.im] 46 (0, 0)))
    (he : ExsD w D s.e.of e) (hb : StsD w D s.body b) (hl : StsD w D s.els l) (he' : ExsD w D t.e.of e') (hb' : StsD w D t.body b') (hl' : StsD w D t.els l') : StsD w D [s, t] (.slice (some ⟨g, 0, none⟩) 2 2) := by
  refine .mk [s, t] (some ⟨g, 0, none⟩) 2 (fun i => if i = 0 then e else e') (fun i => if i = 0 then b else b') (fun i => if i = 0 then l else l') ⟨Nat.le_refl _, by unfold maxLen; omega, fun h => by cases h⟩ (fun i hi => ?_) (fun i hi => ?_) (fun i hi => ?_) fun i hi => ?_
  · refine ⟨g, 0, rfl, hD, fun j => frozen_of_row w g j _ _ hg, ?_⟩
    have c : ∀ k v, (#[Value.int .i64 s.kind, .string s.name, .string s.other, .int .i64 s.n, .int .i64 s.e.kind, .int .i64 s.e.n, .string s.e.name, e, b, l, .complex .f64 s.re s.im, .int .i64 t.kind, .string t.name, .string t.other, .int .i64 t.n, .int .i64 t.e.kind, .int .i64 t.e.n, .string t.e.name, e', b', l', .complex .f64 t.re t.im] : Array Value)[k]? = some v → w.cell? ⟨g, k, none⟩ = some v := fun k v h => by rw [cell_of_row w g _ _ _ (0, 0) hg]; simpa using h
    match i, hi with
    | 0, _ => exact range11 (c _ _ rfl) (c _ _ rfl) (c _ _ rfl) (c _ _ rfl) (c _ _ rfl) (c _ _ rfl) (c _ _ rfl) (c _ _ rfl) (c _ _ rfl) (c _ _ rfl) (c _ _ rfl)
    | 1, _ => exact range11 (c _ _ rfl) (c _ _ rfl) (c _ _ rfl) (c _ _ rfl) (c _ _ rfl) (c _ _ rfl) (c _ _ rfl) (c _ _ rfl) (c _ _ rfl) (c _ _ rfl) (c _ _ rfl)
  · match i, hi with
    | 0, _ => exact he
    | 1, _ => exact he'
  · match i, hi with
    | 0, _ => exact hb
    | 1, _ => exact hb'
  · match i, hi with
    | 0, _ => exact hl
    | 1, _ => exact hl'
theorem TsD.two {w : World} {D : Nat → Prop} {g : Nat} {s t : List St} {a b : Value} (hD : D g) (hg : w.heap[g]? = some (.cells #[a, b] 34 (0, 0))) (ha : StsD w D s a) (hb : StsD w D t b) : TsD w D [s, t] (.slice (some ⟨g, 0, none⟩) 2 2) := by
  refine ⟨some ⟨g, 0, none⟩, 2, fun i => if i = 0 then a else b, rfl, ⟨Nat.le_refl _, by unfold maxLen; omega, fun h => by cases h⟩, fun i hi => ?_, fun i hi => ?_⟩
  · refine ⟨g, 0, rfl, hD, fun j => frozen_of_row w g j _ _ hg, fun j x hx => ?_⟩
    rw [cell_of_row w g _ _ _ (0, 0) hg]
    match i, hi with
    | 0, _ =>
      match j, hx with
      | 0, hu => simpa using hu
    | 1, _ =>
      match j, hx with
      | 0, hu => simpa using hu
  · match i, hi with
    | 0, _ => exact ha
    | 1, _ => exact hb
theorem TsD.one {w : World} {D : Nat → Prop} {g : Nat} {s : List St} {a : Value} (hD : D g) (hg : w.heap[g]? = some (.cells #[a] 34 (0, 0))) (ha : StsD w D s a) : TsD w D [s] (.slice (some ⟨g, 0, none⟩) 1 1) := by
  refine ⟨some ⟨g, 0, none⟩, 1, fun i => a, rfl, ⟨Nat.le_refl _, by unfold maxLen; omega, fun h => by cases h⟩, fun i hi => ?_, fun i hi => ?_⟩
  · refine ⟨g, 0, rfl, hD, fun j => frozen_of_row w g j _ _ hg, fun j x hx => ?_⟩
    rw [cell_of_row w g _ _ _ (0, 0) hg]
    match i, hi with
    | 0, _ =>
      match j, hx with
      | 0, hu => simpa using hu
  · match i, hi with
    | 0, _ => exact ha
theorem TsD.three {w : World} {D : Nat → Prop} {g : Nat} {s t u : List St} {a b c : Value} (hD : D g) (hg : w.heap[g]? = some (.cells #[a, b, c] 34 (0, 0))) (ha : StsD w D s a) (hb : StsD w D t b) (hc : StsD w D u c) : TsD w D [s, t, u] (.slice (some ⟨g, 0, none⟩) 3 3) := by
  refine ⟨some ⟨g, 0, none⟩, 3, fun i => if i = 0 then a else if i = 1 then b else c, rfl, ⟨Nat.le_refl _, by unfold maxLen; omega, fun h => by cases h⟩, fun i hi => ?_, fun i hi => ?_⟩
  · refine ⟨g, 0, rfl, hD, fun j => frozen_of_row w g j _ _ hg, fun j x hx => ?_⟩
    rw [cell_of_row w g _ _ _ (0, 0) hg]
    match i, hi with
    | 0, _ =>
      match j, hx with
      | 0, hu => simpa using hu
    | 1, _ =>
      match j, hx with
      | 0, hu => simpa using hu
    | 2, _ =>
      match j, hx with
      | 0, hu => simpa using hu
  · match i, hi with
    | 0, _ => exact ha
    | 1, _ => exact hb
    | 2, _ => exact hc
end Go.Proofs.Ytnfkjmafhaecgaa
