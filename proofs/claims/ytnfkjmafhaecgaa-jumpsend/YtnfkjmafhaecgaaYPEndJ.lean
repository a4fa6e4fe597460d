/- JumpsEnd answers true, and leaves what it was handed as it was, whatever numbers it is called with; nothing is asked but that they are such values as its types allow. -/
import Derived.Test.YtnfkjmafhaecgaaYNm5
import Derived.ProofKit
import Derived.LaidMore
import Derived.OpenShut
import Derived.Stop.Joined
import Derived.Stop.LaidErr
import Derived.SevenTiedAt
import Derived.Test.YtnfkjmafhaecgaaYHdA
import Derived.Carry
import Derived.ChangeOld
import Derived.Deep.Slices
import Derived.Test.YtnfkjmafhaecgaaYJe2
import Derived.SizedLaws

namespace Go.Proofs.Ytnfkjmafhaecgaa
open Go.ChangeShapes Go.WideShapes Go.ChangeAt Go.WideMaps Go.WideElems Go.RowKit
theorem own : ownKnob Try.prog.godebug = none := by kernel_rfl
end Go.Proofs.Ytnfkjmafhaecgaa
namespace Go.Proofs.Ytnfkjmafhaecgaa
open Go.ChangeShapes Go.WideShapes Go.ChangeAt Go.WideMaps Go.WideElems Go.RowKit
theorem wf_i64 {n : Int} (h : (Lit.int .i64 n).wf = true) : -9223372036854775808 ≤ n ∧ n ≤ 9223372036854775807 := bounds_i64 h
set_option maxRecDepth 100000 in
theorem open_list {H : Type} {enc : TypeId × Value → H} {W : World} {b0 : Nat} {v : Value} {d : DataW H} {p : List MemPlace} (hval : Value.okWide Try.prog W .any b0 22 v)
    (h : DataW.Trod enc Try.prog W 0 (fun _ => true) true 22 v d p) :
    ∃ l : List Int, IntsR W W.heap.size l v ∧ (∀ n, (∀ elems spare, d = .slice elems spare → elems.length ≤ n) → l.length ≤ n) ∧ ∀ W', Kept W W' → DataW.Trod enc Try.prog W' 0 (fun b => decide (b < W.heap.size)) true 22 v d p := by
  obtain ⟨a0, len, cap, rfl⟩ := okWide_slice Try.underlying22 hval
  obtain ⟨fuel, hf⟩ := h
  have hc : Try.prog.cellsOf 3 = 1 := by kernel_rfl
  rcases open_ints Try.underlying22 Try.underlying3 hc hf with ⟨hcs, hx⟩ | ⟨a, len', cap', zs, hcs, hb, hl, hm, hz, hx, hcell, hw⟩
  · simp [Value.cells] at hcs
    obtain ⟨rfl, rfl, rfl⟩ := hcs
    simp only [Prod.mk.injEq] at hx
    obtain ⟨rfl, rfl⟩ := hx
    exact ⟨[], ⟨none, 0, rfl, by simp, by omega, fun i hi => by simp at hi, fun x hx => by cases hx⟩, fun n _ => Nat.zero_le _, fun W' _ => shut_slice_nil Try.underlying22⟩
  · simp [Value.cells] at hcs
    obtain ⟨rfl, rfl, rfl⟩ := hcs
    simp only [Prod.mk.injEq] at hx
    obtain ⟨rfl, rfl⟩ := hx
    simp only [if_true] at hz
    have hlt : (zs.take len).length = len := by rw [List.length_take]; omega
    refine ⟨zs.take len, ⟨some a, cap, by rw [hlt], by rw [hlt]; exact hl, by unfold maxLen at hm; omega, fun j hj => ?_, fun x hx => wf_i64 (hw x (List.mem_of_mem_take hx))⟩, fun n hn => ?_, fun W' hk => ⟨2, ?_⟩⟩
    · rw [hlt] at hj
      obtain ⟨b, o, rfl, hcc⟩ := ints_at hcell (by omega)
      have h1 := hcc j (by omega)
      refine ⟨b, o, rfl, World.block_lt_of_cell? W _ h1, ?_⟩
      rw [h1, List.getElem_take]
      simp [List.getD, show j < zs.length by omega]
    · have := hn _ _ rfl
      simpa [lits] using this
    · exact shut_ints 0 Try.underlying22 Try.underlying3 hc hb hl hm (by
        by_cases h0 : zs.length = 0
        · rw [h0]; split <;> omega
        · have := World.block_lt_of_cell? W _ (hcell 0 (by omega))
          have hb' : a.block < W.heap.size := by rw [← block_add a 0]; exact this
          rw [if_pos (by simpa using hb')]; exact hz) (fun i hi => (hk.cell (World.block_lt_of_cell? W _ (hcell i hi))).trans (hcell i hi)) hw
end Go.Proofs.Ytnfkjmafhaecgaa
namespace Go.Proofs.Ytnfkjmafhaecgaa
open Go.ChangeShapes Go.WideShapes Go.ChangeAt Go.WideMaps Go.WideElems Go.RowKit
end Go.Proofs.Ytnfkjmafhaecgaa

namespace Go.Proofs.Ytnfkjmafhaecgaa
open Go.ChangeShapes Go.WideShapes Go.ChangeAt Go.WideMaps Go.WideElems Go.RowKit
set_option maxRecDepth 100000 in
theorem jumpsEnd_lifted (os : Os) (started : os.Started) (H : Type) (enc : TypeId × Value → H) :
    ReturnsInHanded {} Try.checked os 4 .any (Rows.jumpsEndSpec.pre6 enc Try.prog Try.f4 Rows.jumpsEndRow.domain false) (Rows.jumpsEndSpec.post enc Try.prog Try.f4 false true false false) := by
  refine returnsInHanded_of_change_sized (C := Try.checked) own started (by kernel_rfl) Try.func4
    (ChangeSpec.witness6 (enc := enc) (C := Try.checked) false ⟨#[], #[.slice none 0 0], []⟩ 8 (by kernel_rfl) (by kernel_rfl) (by kernel_rfl) (by kernel_rfl)) ?_
  intro W base args ds gs before hval0 hW _ hsz _
  have hval : ∀ (j : Nat) t v, Try.f4.params[j]? = some t → args[j]? = some v → Value.okWide Try.prog W .any base t v := hval0
  have hW' := hW
  obtain ⟨p, q, hA0, hV, rfl, hfz, hnd⟩ := hW
  have hA : DataW.TrodAll enc Try.prog W 0 (fun _ => true) true Try.f4.params.toList args.toList ds p := hA0
  rw [Try.params4] at hA hval
  obtain ⟨v0, vs0, d0, ds0, p0, q0, ea, rfl, rfl, h0, r0⟩ := trodAll_cons hA
  obtain ⟨rfl, rfl, rfl⟩ := trodAll_nil r0
  obtain rfl : args = #[v0] := by cases args; simp_all
  obtain ⟨rfl, rfl⟩ := trodVars_none hV
  obtain ⟨l0, i0, n0, back0⟩ := open_list (hval 0 22 v0 rfl rfl) h0
  have b0 : l0.length ≤ 17592186044416 := n0 _ fun elems spare hd => by
    have h1 := sized_slice hsz (j := 0) (t := 22) (e := 3) rfl (by rw [← hd]; rfl) Try.underlying22
    have h2 : Try.checked.prog.bytesOf 3 = 8 := by kernel_rfl
    rw [h2] at h1
    have h3 := reachBytes_lt
    omega
  clear hA0 hval0
  simp only [List.append_nil] at hW'
  refine (jumpsEnd_row l0 v0 W i0 b0).mono fun e W' ⟨he, hnx⟩ => ?_
  subst he
  refine ⟨_, rfl, _, _, _, [], (p0 ++ []), [], hW', ?_, ?_, rfl, hnx.frame _, fun h => by cases h⟩
  · exact trodAll_mk1 (shut_bool Try.underlying4 _)
  · exact ⟨_, _, (back0 _ hnx), (by simp [DataW.TrodAll]), rfl⟩
theorem jumpsEnd_holds : Rows.JumpsEndSaid :=
  OpenClaim.holds_of_wide 4 Try.f4 rfl rfl rfl rfl rfl rfl rfl ⟨rfl, rfl, rfl, rfl, rfl⟩ rfl rfl rfl rfl rfl (by kernel_rfl) Try.func4 (by kernel_rfl)
    (of_decide_eq_true (by kernel_rfl)) (by unfold Func.isWrapper; first | (rw [if_pos (by decide +kernel)]; kernel_rfl) | (rw [if_neg (by decide +kernel)]; exact ⟨rfl, rfl⟩))
    (fun os started H enc _ => jumpsEnd_lifted os started H enc)
end Go.Proofs.Ytnfkjmafhaecgaa
