/- What the laws share: cuts of one item, places in the list of all statements. -/
import Derived.Test.YtoaaikbplnpmmaaPz
import Derived.Test.YtoaaikbplnpmmaaKn
import Derived.Test.YtoaaikbplnpmmaaRt
import Derived.Test.YtoaaikbplnpmmaaRc
import Derived.Test.YtoaaikbplnpmmaaR3
import Derived.Test.YtoaaikbplnpmmaaCn
import Derived.Test.YtoaaikbplnpmmaaLb
namespace Go.Proofs.Ytoaaikbplnpmmaa
open Go.RowKit

theorem cut_b (w : World) (a : Option Addr) (n cap k : Nat) (h1 : (k : Int) + 1 ≤ cap) : (Instr.sliceAt 26 (.slice a n cap) (some (.int .i64 (k : Int))) (some (.int .i64 ((k : Int) + 1))) none).run Try.prog w = .ok (.slice (cutAt a k cap 11) 1 (cap - k)) w := by
  have := run_cut_lh Try.underlying26 rfl Try.sizeOf29 a n cap k (k + 1) (by omega) (by omega) w
  rwa [show k + 1 - k = 1 by omega] at this
theorem cut_t (w : World) (a : Option Addr) (n cap k : Nat) (h1 : (k : Int) + 1 ≤ cap) : (Instr.sliceAt 30 (.slice a n cap) (some (.int .i64 (k : Int))) (some (.int .i64 ((k : Int) + 1))) none).run Try.prog w = .ok (.slice (cutAt a k cap 1) 1 (cap - k)) w := by
  have := run_cut_lh Try.underlying30 rfl Try.sizeOf26 a n cap k (k + 1) (by omega) (by omega) w
  rwa [show k + 1 - k = 1 by omega] at this

theorem StsD.cut1 {w : World} {D : Nat → Prop} {l : List St} {a : Option Addr} {n cap : Nat} (h : StsD w D l (.slice a n cap)) (k : Nat) (hk : k < l.length) : StsD w D [l[k]] (.slice (cutAt a k cap 11) 1 (cap - k)) := by
  cases h with
  | mk _ _ _ f g q hl hc he hb hq =>
    obtain ⟨b, o, rfl, h1, h3, h4⟩ := hc k hk
    have e : l.getD k st0 = l[k] := by simp [List.getD, hk]
    simp only [e] at h4
    have hle := hl.le
    have hbig := hl.big
    refine .mk [l[k]] _ (cap - k) (fun _ => f k) (fun _ => g k) (fun _ => q k) ⟨by simp; omega, by omega, fun h => ?_⟩ (fun i hi => ?_) (fun i hi => ?_) (fun i hi => ?_) (fun i hi => ?_)
    · rw [cutAt_some (by omega)] at h; cases h
    · obtain rfl : i = 0 := by simpa using hi
      exact ⟨b, o + k * 11, cutAt_some (by omega), h1, h3, by simpa using h4⟩
    · obtain rfl : i = 0 := by simpa using hi
      exact he k hk
    · obtain rfl : i = 0 := by simpa using hi
      exact hb k hk
    · obtain rfl : i = 0 := by simpa using hi
      exact hq k hk
theorem TsD.cut1 {w : World} {D : Nat → Prop} {l : List (List St)} {a : Option Addr} {n cap : Nat} (h : TsD w D l (.slice a n cap)) (k : Nat) (hk : k < l.length) : TsD w D [l[k]] (.slice (cutAt a k cap 1) 1 (cap - k)) := by
  obtain ⟨a, cap, f, e, hl, hc, hs⟩ := h.out
  cases e
  obtain ⟨b, o, rfl, h1, h3, h4⟩ := hc k hk
  have hle := hl.le
  have hbig := hl.big
  refine ⟨_, _, fun _ => f k, rfl, ⟨by simp; omega, by omega, fun h => ?_⟩, fun i hi => ?_, fun i hi => ?_⟩
  · rw [cutAt_some (by omega)] at h; cases h
  · obtain rfl : i = 0 := by simpa using hi
    exact ⟨b, o + k * 1, cutAt_some (by omega), h1, h3, by simpa using h4⟩
  · obtain rfl : i = 0 := by simpa using hi
    exact hs k hk

theorem flatTs_split (t : List (List St)) (k : Nat) (hk : k < t.length) : flatTs t = flatTs (t.take k) ++ (St.flats t[k] ++ flatTs (t.drop (k + 1))) := by
  have h : t = t.take k ++ t[k] :: t.drop (k + 1) := by rw [← List.drop_eq_getElem_cons hk, List.take_append_drop]
  have h2 := congrArg flatTs h
  rw [flatTs_append] at h2
  exact h2
theorem flatTs_get (t : List (List St)) (k i : Nat) (hk : k < t.length) (hi : i < (St.flats t[k]).length) : ∃ h : (flatTs (t.take k)).length + i < (flatTs t).length, (flatTs t)[(flatTs (t.take k)).length + i] = (St.flats t[k])[i] := by
  have hs := flatTs_split t k hk
  have hl : (flatTs (t.take k)).length + i < (flatTs t).length := by rw [hs, List.length_append, List.length_append]; omega
  refine ⟨hl, ?_⟩
  have : (flatTs t)[(flatTs (t.take k)).length + i]? = (St.flats t[k])[i]? := by
    rw [hs, List.getElem?_append_right (by omega), Nat.add_sub_cancel_left, List.getElem?_append_left hi]
  rw [List.getElem?_eq_getElem hl, List.getElem?_eq_getElem hi] at this
  exact Option.some.inj this
theorem thrs_get (t : List (List St)) (k i : Nat) (hk : k < t.length) (hi : i < (St.flats t[k]).length) : ∃ h : (flatTs (t.take k)).length + i < (thrs 0 t).length, (thrs 0 t)[(flatTs (t.take k)).length + i] = .int .i64 (k : Int) := by
  have ht : t = t.take k ++ t[k] :: t.drop (k + 1) := by rw [← List.drop_eq_getElem_cons hk, List.take_append_drop]
  have hs : thrs 0 t = thrs 0 (t.take k) ++ (List.replicate (St.sizes t[k]) (.int .i64 (k : Int)) ++ thrs (k + 1) (t.drop (k + 1))) := by
    have h2 := congrArg (thrs 0) ht
    rw [thrs_append, List.length_take, Nat.min_eq_left (by omega), Nat.zero_add] at h2
    exact h2
  obtain ⟨hl, -⟩ := flatTs_get t k i hk hi
  rw [← thrs_len 0 t] at hl
  refine ⟨hl, ?_⟩
  have hi' : i < St.sizes t[k] := by rw [← St.flats_len]; exact hi
  have : (thrs 0 t)[(flatTs (t.take k)).length + i]? = some (.int .i64 (k : Int)) := by
    rw [hs, List.getElem?_append_right (by rw [thrs_len]; omega), thrs_len, Nat.add_sub_cancel_left, List.getElem?_append_left (by rw [List.length_replicate]; exact hi')]
    simp [hi']
  rw [List.getElem?_eq_getElem hl] at this
  exact Option.some.inj this
theorem flatTs_step (t : List (List St)) (k : Nat) (hk : k < t.length) : (flatTs (t.take (k + 1))).length = (flatTs (t.take k)).length + (St.flats t[k]).length := by
  rw [flatTs_take t k hk, List.length_append]
theorem flatTs_one (l : List St) : flatTs [l] = St.flats l := by simp [flatTs]
#print axioms thrs_get
end Go.Proofs.Ytoaaikbplnpmmaa
