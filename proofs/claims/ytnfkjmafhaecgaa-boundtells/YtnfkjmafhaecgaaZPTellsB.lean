/- BoundTells answers true, and leaves what it was handed as it was, whatever number, acts, times and numbers it is called with; nothing is asked but that they are such values as its types allow. -/
import Derived.Test.YtnfkjmafhaecgaaZBr8
import Derived.Test.YtnfkjmafhaecgaaZLaA
import Derived.SizedLaws

namespace Go.Proofs.Ytnfkjmafhaecgaa
open Go.ChangeShapes Go.WideShapes Go.ChangeAt Go.WideMaps Go.WideElems Go.RowKit
set_option maxRecDepth 100000 in
theorem boundTells_lifted (os : Os) (started : os.Started) (H : Type) (enc : TypeId × Value → H) :
    ReturnsInHanded {} Try.checked os 6 .any (Rows.boundTellsSpec.pre6 enc Try.prog Try.f6 Rows.boundTellsRow.domain false) (Rows.boundTellsSpec.post enc Try.prog Try.f6 false true false false) := by
  refine returnsInHanded_of_change_sized (C := Try.checked) own started (by kernel_rfl) Try.func6
    (ChangeSpec.witness6 (enc := enc) (C := Try.checked) false ⟨#[], #[.int .i64 0, .slice none 0 0, .slice none 0 0, .slice none 0 0, .slice none 0 0, .slice none 0 0], []⟩ 8 (by kernel_rfl) (by kernel_rfl) (by kernel_rfl) (by kernel_rfl)) ?_
  intro W base args ds gs before hval0 hW _ hsz _
  have hval : ∀ (j : Nat) t v, Try.f6.params[j]? = some t → args[j]? = some v → Value.okWide Try.prog W .any base t v := hval0
  have hW' := hW
  obtain ⟨p, q, hA0, hV, rfl, hfz, hnd⟩ := hW
  have hA : DataW.TrodAll enc Try.prog W 0 (fun _ => true) true Try.f6.params.toList args.toList ds p := hA0
  rw [Try.params6] at hA hval
  obtain ⟨v0, vs0, d0, ds0, p0, q0, ea, rfl, rfl, h0, r0⟩ := trodAll_cons hA
  obtain ⟨v1, vs1, d1, ds1, p1, q1, rfl, rfl, rfl, h1, r1⟩ := trodAll_cons r0
  obtain ⟨v2, vs2, d2, ds2, p2, q2, rfl, rfl, rfl, h2, r2⟩ := trodAll_cons r1
  obtain ⟨v3, vs3, d3, ds3, p3, q3, rfl, rfl, rfl, h3, r3⟩ := trodAll_cons r2
  obtain ⟨v4, vs4, d4, ds4, p4, q4, rfl, rfl, rfl, h4, r4⟩ := trodAll_cons r3
  obtain ⟨v5, vs5, d5, ds5, p5, q5, rfl, rfl, rfl, h5, r5⟩ := trodAll_cons r4
  obtain ⟨rfl, rfl, rfl⟩ := trodAll_nil r5
  obtain rfl : args = #[v0, v1, v2, v3, v4, v5] := by cases args; simp_all
  obtain ⟨rfl, rfl⟩ := trodVars_none hV
  obtain ⟨x0, rfl, rfl, rfl, wf0⟩ := open_int Try.underlying3 (hval 0 3 v0 rfl rfl) h0
  obtain ⟨lo0, up0⟩ := wf_i64 wf0
  obtain ⟨l1, a1⟩ := open_acts (hval 1 23 v1 rfl rfl) h1
  obtain ⟨l2, a2⟩ := open_acts (hval 2 23 v2 rfl rfl) h2
  obtain ⟨l3, a3⟩ := open_acts (hval 3 23 v3 rfl rfl) h3
  obtain ⟨l4, i4, n4, back4⟩ := open_list (hval 4 22 v4 rfl rfl) h4
  have b4 : l4.length ≤ 17592186044416 := n4 _ fun elems spare hd => by
    have h1 := sized_slice hsz (j := 4) (t := 22) (e := 3) rfl (by rw [← hd]; rfl) Try.underlying22
    have h2 : Try.checked.prog.bytesOf 3 = 8 := by kernel_rfl
    rw [h2] at h1
    have h3 := reachBytes_lt
    omega
  obtain ⟨l5, i5, n5, back5⟩ := open_list (hval 5 22 v5 rfl rfl) h5
  have b5 : l5.length ≤ 17592186044416 := n5 _ fun elems spare hd => by
    have h1 := sized_slice hsz (j := 5) (t := 22) (e := 3) rfl (by rw [← hd]; rfl) Try.underlying22
    have h2 : Try.checked.prog.bytesOf 3 = 8 := by kernel_rfl
    rw [h2] at h1
    have h3 := reachBytes_lt
    omega
  clear hA0 hval0
  simp only [List.append_nil] at hW'
  refine (boundTells_row x0 l1 l2 l3 l4 l5 v1 v2 v3 v4 v5 W lo0 up0 a1 a2 a3 i4 b4 i5 b5).mono fun e W' ⟨he, hnx⟩ => ?_
  subst he
  refine ⟨_, rfl, _, _, _, [], ([] ++ (p1 ++ (p2 ++ (p3 ++ (p4 ++ (p5 ++ [])))))), [], hW', ?_, ?_, rfl, hnx.frame _, fun h => by cases h⟩
  · exact trodAll_mk1 (shut_bool Try.underlying4 _)
  · exact ⟨_, _, (shut_int Try.underlying3 wf0), ⟨_, _, (shut_acts h1 hnx), ⟨_, _, (shut_acts h2 hnx), ⟨_, _, (shut_acts h3 hnx), ⟨_, _, (back4 _ hnx), ⟨_, _, (back5 _ hnx), (by simp [DataW.TrodAll]), rfl⟩, rfl⟩, rfl⟩, rfl⟩, rfl⟩, rfl⟩
theorem boundTells_holds : Rows.BoundTellsSaid :=
  OpenClaim.holds_of_wide 6 Try.f6 rfl rfl rfl rfl rfl rfl rfl ⟨rfl, rfl, rfl, rfl, rfl⟩ rfl rfl rfl rfl rfl (by kernel_rfl) Try.func6 (by kernel_rfl)
    (of_decide_eq_true (by kernel_rfl)) (by unfold Func.isWrapper; first | (rw [if_pos (by decide +kernel)]; kernel_rfl) | (rw [if_neg (by decide +kernel)]; exact ⟨rfl, rfl⟩))
    (fun os started H enc _ => boundTells_lifted os started H enc)
end Go.Proofs.Ytnfkjmafhaecgaa
