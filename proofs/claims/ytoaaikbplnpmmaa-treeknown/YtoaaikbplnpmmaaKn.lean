/- known: chapter 3's example. -/
import Derived.Test.YtoaaikbplnpmmaaTc
import Derived.Test.YtoaaikbplnpmmaaHe
import Derived.Test.YtoaaikbplnpmmaaW3
namespace Go.Proofs.Ytoaaikbplnpmmaa
open Go.RowKit
attribute [local go_sem] run_store_complex

set_option maxHeartbeats 400000 in
theorem name_any (s : ByteArray) (w : World) : Calls Try.prog 7 #[.string s] w fun r w' => r = .returned (.agg #[.int .i64 2, .int .i64 0, .string s, .slice none 0 0]) ∧ Kept w w' := by
  go_enter Try.func7, Try.ntmps7
  go_wp2_with fail
  exact bodyPost_ret (v := .agg #[.int .i64 2, .int .i64 0, .string s, .slice none 0 0]) (by simp [results, Try.results7, go_sem]) rfl ⟨rfl, (Kept.refl _).al _⟩

def exY : Ex := .mk 2 0 ⟨#[121]⟩ []
def exX : Ex := .mk 2 0 ⟨#[120]⟩ []
def exA : Ex := .mk 4 0 ⟨#[]⟩ [exY, exX]
def stA : St := .mk 1 ⟨#[120]⟩ ⟨#[]⟩ 0 exA [] [] 0 0
theorem stA_touches : strs stA.touches = [.string ⟨#[121]⟩, .string ⟨#[120]⟩, .string ⟨#[120]⟩] := by
  simp [strs, St.touches, stA, exA, exY, exX, St.kind, St.e, St.name, Ex.names, Ex.namesL]
theorem exA_same : exA.same exA = true := Ex.same_refl _
theorem exA_other : exA.same exY = false := by rw [Ex.same_eq]; rfl

set_option maxRecDepth 100000 in
set_option maxHeartbeats 600000 in
theorem known_any (w : World) : Calls Try.prog 10 #[] w fun r w' => r = .returned (.bool true) ∧ Kept w w' := by
  go_enter Try.func10, Try.ntmps10
  go_wp2_with fail
  refine (name_any _ _).mono ?_
  rintro r w1 ⟨rfl, k1⟩
  go_wp2_with fail
  refine (name_any _ _).mono ?_
  rintro r w2 ⟨rfl, k2⟩
  have K2 : Hid (Kept w w2) := k1.then k2
  clear k1 k2
  go_wp2_with fail
  obtain ⟨W0, hW0⟩ : ∃ W0, (w2.alloc (.cells #[.int .i64 2, .int .i64 0, .string ⟨#[121]⟩, .slice none 0 0, .int .i64 2, .int .i64 0, .string ⟨#[120]⟩, .slice none 0 0] 24)).alloc (.cells #[.int .i64 1, .string ⟨#[120]⟩, .string ⟨#[]⟩, .int .i64 0, .int .i64 4, .int .i64 0, .string ⟨#[]⟩, .slice (some ⟨w2.heap.size, 0, none⟩) 2 2, .slice none 0 0, .slice none 0 0, .complex .f64 0 0] 29) = W0 := ⟨_, rfl⟩
  rw [hW0]
  have b4 : W0.cell? ⟨w2.heap.size + 1, 4, none⟩ = some (.int .i64 4) := by rw [← hW0]; simp
  have b5 : W0.cell? ⟨w2.heap.size + 1, 5, none⟩ = some (.int .i64 0) := by rw [← hW0]; simp
  have b6 : W0.cell? ⟨w2.heap.size + 1, 6, none⟩ = some (.string ⟨#[]⟩) := by rw [← hW0]; simp
  have b7 : W0.cell? ⟨w2.heap.size + 1, 7, none⟩ = some (.slice (some ⟨w2.heap.size, 0, none⟩) 2 2) := by rw [← hW0]; simp
  have HX : Hid (ExsIn W0 0 W0.heap.size exA.of (.slice (some ⟨w2.heap.size, 0, none⟩) 2 2) ∧ Kept w W0) := by
    rw [← hW0]
    refine ⟨ExsD.two (e := exY) (f := exX) (v := .slice none 0 0) (u := .slice none 0 0) ⟨Nat.zero_le _, by simp; omega⟩ ?_ (ExsD.nil _ _) (ExsD.nil _ _), (K2.out.al _).al _⟩
    rw [Below.heap_alloc _ _ _ (by simp)]
    exact heap_alloc_new _ _
  clear hW0
  have PT : Hid (Calls Try.prog 12 #[.agg #[.int .i64 1, .string ⟨#[120]⟩, .string ⟨#[]⟩, .int .i64 0, .int .i64 4, .int .i64 0, .string ⟨#[]⟩, .slice (some ⟨w2.heap.size, 0, none⟩) 2 2, .slice none 0 0, .slice none 0 0, .complex .f64 0 0]] W0 fun r w' => ∃ b o q, r = .returned (.slice (some ⟨b, o, none⟩) 3 q) ∧ Hid (Kept W0 w') ∧ w'.cell? ⟨b, o, none⟩ = some (.string ⟨#[121]⟩) ∧ w'.cell? ⟨b, o + 1, none⟩ = some (.string ⟨#[120]⟩) ∧ w'.cell? ⟨b, o + 2, none⟩ = some (.string ⟨#[120]⟩)) := by
    refine (touches_any stA W0 _ _ _ HX.out.1 (StsD.nil _ _) (StsD.nil _ _) (by show Ex.size exA ≤ _; simp [exA, exX, exY, Ex.size, Ex.sizes])).mono ?_
    rintro r w3 ⟨v3, rfl, h3, h4⟩
    rw [stA_touches] at h3
    obtain ⟨a, cap, rfl, -⟩ := h3.open
    obtain ⟨b, o, rfl, -, c0⟩ := h3.itemD 0 (by simp)
    obtain ⟨b', o', e1, -, c1⟩ := h3.itemD 1 (by simp)
    obtain ⟨b'', o'', e2, -, c2⟩ := h3.itemD 2 (by simp)
    cases e1; cases e2
    exact ⟨b, o, cap, rfl, h4, c0, c1, c2⟩
  go_wp2_with fail
  refine Calls.mono PT.out ?_
  rintro r W1 ⟨b, o, q, rfl, H4, c0, c1, c2⟩
  have d4 := H4.out.cellS b4
  have d5 := H4.out.cellS b5
  have d6 := H4.out.cellS b6
  have d7 := H4.out.cellS b7
  have HX1 : Hid (∀ W, Kept W1 W → ExsIn W 0 W.heap.size exA.of (.slice (some ⟨w2.heap.size, 0, none⟩) 2 2)) := fun W hW => HX.out.1.up (Nat.le_refl _) (H4.out.then hW)
  have KW1 : Hid (Kept w W1) := HX.out.2.then H4.out
  have PSE : Hid (∀ W, Kept W1 W → Calls Try.prog 26 #[.agg #[.int .i64 4, .int .i64 0, .string ⟨#[]⟩, .slice (some ⟨w2.heap.size, 0, none⟩) 2 2], .agg #[.int .i64 4, .int .i64 0, .string ⟨#[]⟩, .slice (some ⟨w2.heap.size, 0, none⟩) 2 2]] W fun r w' => r = .returned (.bool true) ∧ Hid (Kept W1 w')) := fun W hW => by
    refine (sameExpr_any exA exA W _ _ (HX1.out W hW) (HX1.out W hW)).mono ?_
    rintro r w' ⟨rfl, h⟩
    rw [exA_same]
    exact ⟨rfl, hW.then h⟩
  have PSN : Hid (∀ W, Kept W1 W → Calls Try.prog 26 #[.agg #[.int .i64 4, .int .i64 0, .string ⟨#[]⟩, .slice (some ⟨w2.heap.size, 0, none⟩) 2 2], .agg #[.int .i64 2, .int .i64 0, .string ⟨#[121]⟩, .slice none 0 0]] W fun r w' => r = .returned (.bool false) ∧ Hid (Kept W1 w')) := fun W hW => by
    refine (sameExpr_any exA exY W _ _ (HX1.out W hW) (ExsD.nil _ _)).mono ?_
    rintro r w' ⟨rfl, h⟩
    rw [exA_other]
    exact ⟨rfl, hW.then h⟩
  have PNM : Hid (∀ W, Kept W1 W → Calls Try.prog 7 #[.string ⟨#[121]⟩] W fun r w' => r = .returned (.agg #[.int .i64 2, .int .i64 0, .string ⟨#[121]⟩, .slice none 0 0]) ∧ Hid (Kept W1 w')) := fun W hW => by
    refine (name_any _ W).mono ?_
    rintro r w' ⟨rfl, h⟩
    exact ⟨rfl, hW.then h⟩
  have SS : Hid (∀ w', Kept W1 w' → Hid (Kept W1 w') ∧ w'.cell? ⟨b, o, none⟩ = some (.string ⟨#[121]⟩) ∧ w'.cell? ⟨b, o + 1, none⟩ = some (.string ⟨#[120]⟩) ∧ w'.cell? ⟨b, o + 2, none⟩ = some (.string ⟨#[120]⟩) ∧ w'.cell? ⟨w2.heap.size + 1, 4, none⟩ = some (.int .i64 4) ∧ w'.cell? ⟨w2.heap.size + 1, 5, none⟩ = some (.int .i64 0) ∧ w'.cell? ⟨w2.heap.size + 1, 6, none⟩ = some (.string ⟨#[]⟩) ∧ w'.cell? ⟨w2.heap.size + 1, 7, none⟩ = some (.slice (some ⟨w2.heap.size, 0, none⟩) 2 2)) := fun w' KK => ⟨KK, KK.cellS c0, KK.cellS c1, KK.cellS c2, KK.cellS d4, KK.cellS d5, KK.cellS d6, KK.cellS d7⟩
  clear b4 b5 b6 b7 PT
  go_wp2_with fail
  go_region_held3 (fun w' => Hid (Kept W1 w') ∧ w'.cell? ⟨b, o, none⟩ = some (.string ⟨#[121]⟩) ∧ w'.cell? ⟨b, o + 1, none⟩ = some (.string ⟨#[120]⟩) ∧ w'.cell? ⟨b, o + 2, none⟩ = some (.string ⟨#[120]⟩) ∧ w'.cell? ⟨w2.heap.size + 1, 4, none⟩ = some (.int .i64 4) ∧ w'.cell? ⟨w2.heap.size + 1, 5, none⟩ = some (.int .i64 0) ∧ w'.cell? ⟨w2.heap.size + 1, 6, none⟩ = some (.string ⟨#[]⟩) ∧ w'.cell? ⟨w2.heap.size + 1, 7, none⟩ = some (.slice (some ⟨w2.heap.size, 0, none⟩) 2 2))
    (first
      | exact SS.out _ hk3.out
      | exact SS.out _ hk2.out
      | exact SS.out _ hk1.out
      | exact SS.out _ ((Kept.refl W1).dr))
    (first
      | (go_at_call 7; refine (PNM.out _ hk1.out).mono ?_; rintro e w5 ⟨rfl, hk2⟩)
      | (go_at_call_of 26 (ByteArray.mk #[121]); refine (PSN.out _ hk2.out).mono ?_; rintro e w6 ⟨rfl, hk3⟩)
      | (go_at_call 26; refine (PSE.out _ ((Kept.refl W1).dr)).mono ?_; rintro e w4 ⟨rfl, hk1⟩))
  all_goals
    rename_i hH
    clear hH
    go_wp2_with fail
    go_ret
    exact ⟨rfl, KW1.out.then hk3.out⟩
#print axioms known_any
end Go.Proofs.Ytoaaikbplnpmmaa
