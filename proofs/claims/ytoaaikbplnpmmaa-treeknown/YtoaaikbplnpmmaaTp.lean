/- The program of chapter 3's closed sentence, and where its literals lie. -/
import Derived.Test.YtoaaikbplnpmmaaLw
import Derived.Test.YtoaaikbplnpmmaaTu
namespace Go.Proofs.Ytoaaikbplnpmmaa
open Go.RowKit

theorem StsD.one {w : World} {D : Nat → Prop} {g : Nat} {s : St} {e b l : Value} (hD : D g)
    (hg : w.heap[g]? = some (.cells #[.int .i64 s.kind, .string s.name, .string s.other, .int .i64 s.n, .int .i64 s.e.kind, .int .i64 s.e.n, .string s.e.name, e, b, l, .complex .f64 s.re s.im] 29 (0, 0)))
    (he : ExsD w D s.e.of e) (hb : StsD w D s.body b) (hl : StsD w D s.els l) : StsD w D [s] (.slice (some ⟨g, 0, none⟩) 1 1) := by
  refine .mk [s] (some ⟨g, 0, none⟩) 1 (fun _ => e) (fun _ => b) (fun _ => l) ⟨Nat.le_refl _, by unfold maxLen; omega, fun h => by cases h⟩ (fun i hi => ?_) (fun i hi => ?_) (fun i hi => ?_) fun i hi => ?_
  · refine ⟨g, 0, rfl, hD, fun j => frozen_of_row w g j _ _ hg, ?_⟩
    have c : ∀ k v, (#[Value.int .i64 s.kind, .string s.name, .string s.other, .int .i64 s.n, .int .i64 s.e.kind, .int .i64 s.e.n, .string s.e.name, e, b, l, .complex .f64 s.re s.im] : Array Value)[k]? = some v → w.cell? ⟨g, k, none⟩ = some v := fun k v h => by rw [cell_of_row w g _ _ _ (0, 0) hg]; simpa using h
    match i, hi with
    | 0, _ => exact range11 (c _ _ rfl) (c _ _ rfl) (c _ _ rfl) (c _ _ rfl) (c _ _ rfl) (c _ _ rfl) (c _ _ rfl) (c _ _ rfl) (c _ _ rfl) (c _ _ rfl) (c _ _ rfl)
  · match i, hi with
    | 0, _ => exact he
  · match i, hi with
    | 0, _ => exact hb
  · match i, hi with
    | 0, _ => exact hl
theorem StsD.two {w : World} {D : Nat → Prop} {g : Nat} {s t : St} {e b l e' b' l' : Value} (hD : D g)
    (hg : w.heap[g]? = some (.cells #[.int .i64 s.kind, .string s.name, .string s.other, .int .i64 s.n, .int .i64 s.e.kind, .int .i64 s.e.n, .string s.e.name, e, b, l, .complex .f64 s.re s.im, .int .i64 t.kind, .string t.name, .string t.other, .int .i64 t.n, .int .i64 t.e.kind, .int .i64 t.e.n, .string t.e.name, e', b', l', .complex .f64 t.re t.im] 29 (0, 0)))
    (he : ExsD w D s.e.of e) (hb : StsD w D s.body b) (hl : StsD w D s.els l) (he' : ExsD w D t.e.of e') (hb' : StsD w D t.body b') (hl' : StsD w D t.els l') : StsD w D [s, t] (.slice (some ⟨g, 0, none⟩) 2 2) := by
  refine .mk [s, t] (some ⟨g, 0, none⟩) 2 (fun i => if i = 0 then e else e') (fun i => if i = 0 then b else b') (fun i => if i = 0 then l else l') ⟨Nat.le_refl _, by unfold maxLen; omega, fun h => by cases h⟩ (fun i hi => ?_) (fun i hi => ?_) (fun i hi => ?_) fun i hi => ?_
  · refine ⟨g, 0, rfl, hD, fun j => frozen_of_row w g j _ _ hg, ?_⟩
    have c : ∀ k v, (#[Value.int .i64 s.kind, .string s.name, .string s.other, .int .i64 s.n, .int .i64 s.e.kind, .int .i64 s.e.n, .string s.e.name, e, b, l, .complex .f64 s.re s.im, .int .i64 t.kind, .string t.name, .string t.other, .int .i64 t.n, .int .i64 t.e.kind, .int .i64 t.e.n, .string t.e.name, e', b', l', .complex .f64 t.re t.im] : Array Value)[k]? = some v → w.cell? ⟨g, k, none⟩ = some v := fun k v h => by rw [cell_of_row w g _ _ _ (0, 0) hg]; simpa using h
    match i, hi with
    | 0, _ => exact range11 (c _ _ rfl) (c _ _ rfl) (c _ _ rfl) (c _ _ rfl) (c _ _ rfl) (c _ _ rfl) (c _ _ rfl) (c _ _ rfl) (c _ _ rfl) (c _ _ rfl) (c _ _ rfl)
    | 1, _ => exact range11 (c _ _ rfl) (c _ _ rfl) (c _ _ rfl) (c _ _ rfl) (c _ _ rfl) (c _ _ rfl) (c _ _ rfl) (c _ _ rfl) (c _ _ rfl) (c _ _ rfl) (c _ _ rfl)
  · match i, hi with
    | 0, _ => exact he
    | 1, _ => exact he'
  · match i, hi with
    | 0, _ => exact hb
    | 1, _ => exact hb'
  · match i, hi with
    | 0, _ => exact hl
    | 1, _ => exact hl'
theorem TsD.two {w : World} {D : Nat → Prop} {g : Nat} {s t : List St} {a b : Value} (hD : D g) (hg : w.heap[g]? = some (.cells #[a, b] 26 (0, 0))) (ha : StsD w D s a) (hb : StsD w D t b) : TsD w D [s, t] (.slice (some ⟨g, 0, none⟩) 2 2) := by
  refine ⟨some ⟨g, 0, none⟩, 2, fun i => if i = 0 then a else b, rfl, ⟨Nat.le_refl _, by unfold maxLen; omega, fun h => by cases h⟩, fun i hi => ?_, fun i hi => ?_⟩
  · refine ⟨g, 0, rfl, hD, fun j => frozen_of_row w g j _ _ hg, fun j x hx => ?_⟩
    rw [cell_of_row w g _ _ _ (0, 0) hg]
    match i, hi with
    | 0, _ =>
      match j, hx with
      | 0, hu => simpa using hu
    | 1, _ =>
      match j, hx with
      | 0, hu => simpa using hu
  · match i, hi with
    | 0, _ => exact ha
    | 1, _ => exact hb

def exN (s : ByteArray) : Ex := .mk 2 0 s []
def sPrint : St := .mk 6 ⟨#[]⟩ ⟨#[]⟩ 0 (exN ⟨#[113]⟩) [] [] 0 0
def sLock : St := .mk 2 ⟨#[109]⟩ ⟨#[]⟩ 0 (.mk 0 0 ⟨#[]⟩ []) [] [] 0 0
def sIf : St := .mk 7 ⟨#[]⟩ ⟨#[]⟩ 0 (exN ⟨#[97]⟩) [sPrint] [sLock] 0 0
def sRecv : St := .mk 5 ⟨#[99]⟩ ⟨#[118]⟩ 0 (.mk 0 0 ⟨#[]⟩ []) [] [] 0 0
def sSend : St := .mk 4 ⟨#[99]⟩ ⟨#[]⟩ 0 (exN ⟨#[119]⟩) [] [] 0 0
def tK : List (List St) := [[sIf, sRecv], [sSend]]

/-- What region 2 leaves: p's box at bp; its threads' row at b5. -/
structure MadeK (w wc : World) (bp b5 : Nat) : Prop where
  c0 : wc.cell? ⟨bp, 0, none⟩ = some (.slice none 0 0)
  c1 : wc.cell? ⟨bp, 1, none⟩ = some (.slice (some ⟨b5, 0, none⟩) 2 2)
  ts : TsIn wc 0 wc.heap.size tK (.slice (some ⟨b5, 0, none⟩) 2 2)
  kept : Kept w wc
theorem lt_of_heap {w : World} {b : Nat} {o : Obj} (h : w.heap[b]? = some o) : b < w.heap.size := (Array.getElem?_eq_some_iff.1 h).1
theorem made_of {w wc : World} {bp b5 b0 b1 bb be : Nat}
    (hp : wc.heap[bp]? = some (.cells #[.slice none 0 0, .slice (some ⟨b5, 0, none⟩) 2 2] 33 (0, 0)))
    (h5 : wc.heap[b5]? = some (.cells #[.slice (some ⟨b0, 0, none⟩) 2 2, .slice (some ⟨b1, 0, none⟩) 1 1] 26 (0, 0)))
    (h0 : wc.heap[b0]? = some (.cells #[.int .i64 7, .string ⟨#[]⟩, .string ⟨#[]⟩, .int .i64 0, .int .i64 2, .int .i64 0, .string ⟨#[97]⟩, .slice none 0 0, .slice (some ⟨bb, 0, none⟩) 1 1, .slice (some ⟨be, 0, none⟩) 1 1, .complex .f64 0 0, .int .i64 5, .string ⟨#[99]⟩, .string ⟨#[118]⟩, .int .i64 0, .int .i64 0, .int .i64 0, .string ⟨#[]⟩, .slice none 0 0, .slice none 0 0, .slice none 0 0, .complex .f64 0 0] 29 (0, 0)))
    (h1 : wc.heap[b1]? = some (.cells #[.int .i64 4, .string ⟨#[99]⟩, .string ⟨#[]⟩, .int .i64 0, .int .i64 2, .int .i64 0, .string ⟨#[119]⟩, .slice none 0 0, .slice none 0 0, .slice none 0 0, .complex .f64 0 0] 29 (0, 0)))
    (hb : wc.heap[bb]? = some (.cells #[.int .i64 6, .string ⟨#[]⟩, .string ⟨#[]⟩, .int .i64 0, .int .i64 2, .int .i64 0, .string ⟨#[113]⟩, .slice none 0 0, .slice none 0 0, .slice none 0 0, .complex .f64 0 0] 29 (0, 0)))
    (he : wc.heap[be]? = some (.cells #[.int .i64 2, .string ⟨#[109]⟩, .string ⟨#[]⟩, .int .i64 0, .int .i64 0, .int .i64 0, .string ⟨#[]⟩, .slice none 0 0, .slice none 0 0, .slice none 0 0, .complex .f64 0 0] 29 (0, 0)))
    (hk : Kept w wc) : MadeK w wc bp b5 := by
  refine ⟨by rw [cell_of_row wc bp _ _ _ (0, 0) hp]; rfl, by rw [cell_of_row wc bp _ _ _ (0, 0) hp]; rfl, ?_, hk⟩
  exact TsD.two ⟨Nat.zero_le _, lt_of_heap h5⟩ h5
    (StsD.two (s := sIf) (t := sRecv) ⟨Nat.zero_le _, lt_of_heap h0⟩ h0 (ExsD.nil _ _)
      (StsD.one (s := sPrint) ⟨Nat.zero_le _, lt_of_heap hb⟩ hb (ExsD.nil _ _) (StsD.nil _ _) (StsD.nil _ _))
      (StsD.one (s := sLock) ⟨Nat.zero_le _, lt_of_heap he⟩ he (ExsD.nil _ _) (StsD.nil _ _) (StsD.nil _ _))
      (ExsD.nil _ _) (StsD.nil _ _) (StsD.nil _ _))
    (StsD.one (s := sSend) ⟨Nat.zero_le _, lt_of_heap h1⟩ h1 (ExsD.nil _ _) (StsD.nil _ _) (StsD.nil _ _))
#print axioms made_of
end Go.Proofs.Ytoaaikbplnpmmaa
