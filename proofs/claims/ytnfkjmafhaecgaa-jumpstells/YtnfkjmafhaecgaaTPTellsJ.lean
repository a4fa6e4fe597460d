/- JumpsTells answers true, whatever it is called with; nothing is asked but values that its types allow. -/
import Derived.Test.YtnfkjmafhaecgaaTNm5
import Derived.ProofKit
import Derived.LaidMore
import Derived.OpenShut
import Derived.Stop.Joined
import Derived.Stop.LaidErr
import Derived.SevenTiedAt
import Derived.Test.YtnfkjmafhaecgaaTHdA
import Derived.Carry
import Derived.ChangeOld
import Derived.Deep.Slices
import Derived.Test.YtnfkjmafhaecgaaTMh
import Derived.SizedLaws

namespace Go.Proofs.Ytnfkjmafhaecgaa
open Go.ChangeShapes Go.WideShapes Go.ChangeAt Go.WideMaps Go.WideElems Go.RowKit
theorem own : ownKnob Try.prog.godebug = none := by kernel_rfl
end Go.Proofs.Ytnfkjmafhaecgaa
namespace Go.Proofs.Ytnfkjmafhaecgaa
open Go.ChangeShapes Go.WideShapes Go.ChangeAt Go.WideMaps Go.WideElems Go.RowKit
theorem wf_i64 {n : Int} (h : (Lit.int .i64 n).wf = true) : -9223372036854775808 ≤ n ∧ n ≤ 9223372036854775807 := bounds_i64 h
set_option maxRecDepth 100000 in
theorem open_list {H : Type} {enc : TypeId × Value → H} {W : World} {b0 : Nat} {v : Value} {d : DataW H} {p : List MemPlace} (hval : Value.okWide Try.prog W .any b0 22 v)
    (h : DataW.Trod enc Try.prog W 0 (fun _ => true) true 22 v d p) :
    ∃ l : List Int, IntsR W W.heap.size l v ∧ (∀ n, (∀ elems spare, d = .slice elems spare → elems.length ≤ n) → l.length ≤ n) ∧ ∀ W', Kept W W' → DataW.Trod enc Try.prog W' 0 (fun b => decide (b < W.heap.size)) true 22 v d p := by
  obtain ⟨a0, len, cap, rfl⟩ := okWide_slice Try.underlying22 hval
  obtain ⟨fuel, hf⟩ := h
  have hc : Try.prog.cellsOf 3 = 1 := by kernel_rfl
  rcases open_ints Try.underlying22 Try.underlying3 hc hf with ⟨hcs, hx⟩ | ⟨a, len', cap', zs, hcs, hb, hl, hm, hz, hx, hcell, hw⟩
  · simp [Value.cells] at hcs
    obtain ⟨rfl, rfl, rfl⟩ := hcs
    simp only [Prod.mk.injEq] at hx
    obtain ⟨rfl, rfl⟩ := hx
    exact ⟨[], ⟨none, 0, rfl, by simp, by omega, fun i hi => by simp at hi, fun x hx => by cases hx⟩, fun n _ => Nat.zero_le _, fun W' _ => shut_slice_nil Try.underlying22⟩
  · simp [Value.cells] at hcs
    obtain ⟨rfl, rfl, rfl⟩ := hcs
    simp only [Prod.mk.injEq] at hx
    obtain ⟨rfl, rfl⟩ := hx
    simp only [if_true] at hz
    have hlt : (zs.take len).length = len := by rw [List.length_take]; omega
    refine ⟨zs.take len, ⟨some a, cap, by rw [hlt], by rw [hlt]; exact hl, by unfold maxLen at hm; omega, fun j hj => ?_, fun x hx => wf_i64 (hw x (List.mem_of_mem_take hx))⟩, fun n hn => ?_, fun W' hk => ⟨2, ?_⟩⟩
    · rw [hlt] at hj
      obtain ⟨b, o, rfl, hcc⟩ := Go.ints_at hcell (by omega)
      have h1 := hcc j (by omega)
      refine ⟨b, o, rfl, World.block_lt_of_cell? W _ h1, ?_⟩
      rw [h1, List.getElem_take]
      simp [List.getD, show j < zs.length by omega]
    · have := hn _ _ rfl
      simpa [lits] using this
    · exact shut_ints 0 Try.underlying22 Try.underlying3 hc hb hl hm (by
        by_cases h0 : zs.length = 0
        · rw [h0]; split <;> omega
        · have := World.block_lt_of_cell? W _ (hcell 0 (by omega))
          have hb' : a.block < W.heap.size := by rw [← block_add a 0]; exact this
          rw [if_pos (by simpa using hb')]; exact hz) (fun i hi => (hk.cell (World.block_lt_of_cell? W _ (hcell i hi))).trans (hcell i hi)) hw
end Go.Proofs.Ytnfkjmafhaecgaa
namespace Go.Proofs.Ytnfkjmafhaecgaa
open Go.ChangeShapes Go.WideShapes Go.ChangeAt Go.WideMaps Go.WideElems Go.RowKit
theorem lt_of_cells {W : World} {a : Addr} {v : Value} (h : W.cell? a = some v) : a.block < W.heap.size := World.block_lt_of_cell? W _ h
set_option maxRecDepth 100000 in
theorem open_nums {H : Type} {enc : TypeId × Value → H} {W : World} {n : Nat} {cs : List Value} {x : DataW H × List MemPlace} (hf : DataW.trod enc Try.prog W 0 (fun _ => true) true n 22 cs = some x) :
    ∃ (l : List Int) (a1 : Option Addr) (n1 q1 : Nat), cs = [.slice a1 n1 q1] ∧ IntsR W W.heap.size l (.slice a1 n1 q1) := by
  have hc : Try.prog.cellsOf 3 = 1 := by kernel_rfl
  rcases open_ints Try.underlying22 Try.underlying3 hc hf with ⟨rfl, -⟩ | ⟨a, len, cap, zs, rfl, -, hl, hm, hz, -, hcell, hw⟩
  · exact ⟨[], none, 0, 0, rfl, none, 0, rfl, Nat.le_refl _, by omega, fun i hi => by simp at hi, fun x hx => by cases hx⟩
  · simp only [if_true] at hz
    have hlt : (zs.take len).length = len := by rw [List.length_take]; omega
    refine ⟨zs.take len, some a, len, cap, rfl, some a, cap, by rw [hlt], by omega, by unfold maxLen at hm; exact hm, fun i hi => ?_, fun x hx => wf_i64 (hw x (List.mem_of_mem_take hx))⟩
    rw [hlt] at hi
    obtain ⟨b, o, rfl, hcc⟩ := Go.ints_at hcell (by omega)
    have h1 := hcc i (by omega)
    refine ⟨b, o, rfl, lt_of_cells h1, ?_⟩
    rw [h1, List.getElem_take]
    simp [List.getD, show i < zs.length by omega]
set_option maxRecDepth 100000 in
theorem open_acts {H : Type} {enc : TypeId × Value → H} {W : World} {b0 : Nat} {v : Value} {d : DataW H} {p : List MemPlace} (hval : Value.okWide Try.prog W .any b0 23 v)
    (h : DataW.Trod enc Try.prog W 0 (fun _ => true) true 23 v d p) : ∃ l : List Ac, ActsR W W.heap.size l v := by
  obtain ⟨a0, len0, cap0, rfl⟩ := okWide_slice Try.underlying23 hval
  obtain ⟨fuel, hf⟩ := h
  have hc : Try.prog.cellsOf 79 = 5 := by kernel_rfl
  have hc3 : Try.prog.cellsOf 3 = 1 := by kernel_rfl
  have hc35 : Try.prog.cellsOf 22 = 1 := by kernel_rfl
  rcases Go.Deep.open_slice Try.underlying23 hf with ⟨hcs, -⟩ | ⟨a, len, cap, m, n, D, Pl, hcs, -, hl, hm, hmm, -, hel⟩
  · simp [Value.cells] at hcs
    obtain ⟨rfl, rfl, rfl⟩ := hcs
    exact ⟨[], none, 0, rfl, Nat.le_refl _, by omega, fun i hi => by simp at hi, fun x hx => by cases hx⟩
  · simp [Value.cells] at hcs
    obtain ⟨rfl, rfl, rfl⟩ := hcs
    simp only [if_true] at hmm
    rw [hc] at hel
    have key : ∀ i, i < len0 → ∃ x : Ac, x.inR ∧ ∃ b o a1 n1 q1, a = ⟨b, o, none⟩ ∧ b < W.heap.size ∧ W.cell? ⟨b, o + i * 5, none⟩ = some (.int .i64 x.what) ∧ W.cell? ⟨b, o + i * 5 + 1, none⟩ = some (.int .i64 x.a) ∧ W.cell? ⟨b, o + i * 5 + 2, none⟩ = some (.int .i64 x.b) ∧ W.cell? ⟨b, o + i * 5 + 3, none⟩ = some (.int .i64 x.n) ∧ W.cell? ⟨b, o + i * 5 + 4, none⟩ = some (.slice a1 n1 q1) ∧ IntsR W W.heap.size x.e (.slice a1 n1 q1) := by
      intro i hi
      have hsp : a.spot = none := by
        obtain ⟨cs, h1, -⟩ := hel 0 (by omega)
        obtain ⟨-, hlen, hcell⟩ := World.cells?_some h1
        have k0 := hcell 0 (by omega)
        rw [List.getElem?_eq_getElem (by omega)] at k0
        have := World.cell?_spot k0
        simpa [Addr.add] using this
      obtain ⟨b, o, spot⟩ := a
      obtain rfl : spot = none := hsp
      obtain ⟨cs, h1, h2⟩ := hel i (by omega)
      obtain ⟨-, hlen, hcell⟩ := World.cells?_some h1
      obtain ⟨xs, n', -, -, -, hxl, hfs⟩ := DataW.trod_struct Try.underlying79 h2
      match cs, hlen with
      | [c0, c1, c2, c3, c4], _ =>
        match xs, hxl with
        | [y0, y1, y2, y3, y4], _ =>
          have g0 : DataW.trod enc Try.prog W 0 (fun _ => true) true n' 3 ((([c0, c1, c2, c3, c4] : List Value).drop 0).take (Try.prog.cellsOf 3)) = some y0 := hfs 0 _ rfl
          rw [hc3] at g0
          obtain ⟨z0, e0, -, w0⟩ := DataW.trod_int Try.underlying3 g0
          obtain rfl : c0 = .int .i64 z0 := (List.cons.inj e0).1
          have g1 : DataW.trod enc Try.prog W 0 (fun _ => true) true n' 3 ((([.int .i64 z0, c1, c2, c3, c4] : List Value).drop 1).take (Try.prog.cellsOf 3)) = some y1 := hfs 1 _ rfl
          rw [hc3] at g1
          obtain ⟨z1, e1, -, w1⟩ := DataW.trod_int Try.underlying3 g1
          obtain rfl : c1 = .int .i64 z1 := (List.cons.inj e1).1
          have g2 : DataW.trod enc Try.prog W 0 (fun _ => true) true n' 3 ((([.int .i64 z0, .int .i64 z1, c2, c3, c4] : List Value).drop 2).take (Try.prog.cellsOf 3)) = some y2 := hfs 2 _ rfl
          rw [hc3] at g2
          obtain ⟨z2, e2, -, w2⟩ := DataW.trod_int Try.underlying3 g2
          obtain rfl : c2 = .int .i64 z2 := (List.cons.inj e2).1
          have g3 : DataW.trod enc Try.prog W 0 (fun _ => true) true n' 3 ((([.int .i64 z0, .int .i64 z1, .int .i64 z2, c3, c4] : List Value).drop 3).take (Try.prog.cellsOf 3)) = some y3 := hfs 3 _ rfl
          rw [hc3] at g3
          obtain ⟨z3, e3, -, w3⟩ := DataW.trod_int Try.underlying3 g3
          obtain rfl : c3 = .int .i64 z3 := (List.cons.inj e3).1
          have g4 : DataW.trod enc Try.prog W 0 (fun _ => true) true n' 22 ((([.int .i64 z0, .int .i64 z1, .int .i64 z2, .int .i64 z3, c4] : List Value).drop 4).take (Try.prog.cellsOf 22)) = some y4 := hfs 4 _ rfl
          rw [hc35] at g4
          obtain ⟨l4, a4, n4, q4, e4, i4⟩ := open_nums g4
          obtain rfl : c4 = .slice a4 n4 q4 := (List.cons.inj e4).1
          have k0 := hcell 0 (by omega)
          have k1 := hcell 1 (by omega)
          have k2 := hcell 2 (by omega)
          have k3 := hcell 3 (by omega)
          have k4 := hcell 4 (by omega)
          simp only [Addr.add_mid] at k0 k1 k2 k3 k4
          exact ⟨⟨z0, z1, z2, z3, l4⟩, ⟨wf_i64 w0, wf_i64 w1, wf_i64 w2, wf_i64 w3⟩, b, o, a4, n4, q4, rfl, lt_of_cells (k0.trans rfl), k0.trans rfl, k1.trans rfl, k2.trans rfl, k3.trans rfl, k4.trans rfl, i4⟩
    have : ∃ f : Nat → Ac, ∀ i, i < len0 → (f i).inR ∧ ∃ b o a1 n1 q1, a = ⟨b, o, none⟩ ∧ b < W.heap.size ∧ W.cell? ⟨b, o + i * 5, none⟩ = some (.int .i64 (f i).what) ∧ W.cell? ⟨b, o + i * 5 + 1, none⟩ = some (.int .i64 (f i).a) ∧ W.cell? ⟨b, o + i * 5 + 2, none⟩ = some (.int .i64 (f i).b) ∧ W.cell? ⟨b, o + i * 5 + 3, none⟩ = some (.int .i64 (f i).n) ∧ W.cell? ⟨b, o + i * 5 + 4, none⟩ = some (.slice a1 n1 q1) ∧ IntsR W W.heap.size (f i).e (.slice a1 n1 q1) := by
      haveI : Inhabited Ac := ⟨⟨0, 0, 0, 0, []⟩⟩
      exact Go.Deep.choose_lt key
    obtain ⟨f, hf'⟩ := this
    have hlen : ((List.range len0).map f).length = len0 := by simp
    refine ⟨(List.range len0).map f, some a, cap0, by rw [hlen], by omega, by unfold maxLen at hm; exact hm, fun i hi => ?_, fun x hx => ?_⟩
    · rw [hlen] at hi
      obtain ⟨-, b, o, a1, n1, q1, rfl, r⟩ := hf' i hi
      simp only [List.getElem_map, List.getElem_range]
      exact ⟨b, o, a1, n1, q1, rfl, r⟩
    · obtain ⟨i, hi, rfl⟩ := List.mem_map.1 hx
      exact (hf' i (List.mem_range.1 hi)).1
theorem shut_acts {H : Type} {enc : TypeId × Value → H} {W W' : World} {v : Value} {d : DataW H} {p : List MemPlace} (h : DataW.Trod enc Try.prog W 0 (fun _ => true) true 23 v d p) (k : Kept W W') :
    DataW.Trod enc Try.prog W' 0 (fun b => decide (b < W.heap.size)) true 23 v d p :=
  Below.trod (by kernel_rfl) (by kernel_rfl) (of_decide_eq_true (by kernel_rfl)) h k (by obtain ⟨n, hn⟩ := h; exact DataW.trod_lt n _ _ _ hn)
end Go.Proofs.Ytnfkjmafhaecgaa

namespace Go.Proofs.Ytnfkjmafhaecgaa
open Go.ChangeShapes Go.WideShapes Go.ChangeAt Go.WideMaps Go.WideElems Go.RowKit
set_option maxRecDepth 100000 in
theorem jumpsTells_lifted (os : Os) (started : os.Started) (H : Type) (enc : TypeId × Value → H) :
    ReturnsInHanded {} Try.checked os 3 .any (Rows.jumpsTellsSpec.pre6 enc Try.prog Try.f3 Rows.jumpsTellsRow.domain false) (Rows.jumpsTellsSpec.post enc Try.prog Try.f3 false true false false) := by
  refine returnsInHanded_of_change_sized (C := Try.checked) own started (by kernel_rfl) Try.func3
    (ChangeSpec.witness6 (enc := enc) (C := Try.checked) false ⟨#[], #[.slice none 0 0, .int .i64 0, .slice none 0 0, .slice none 0 0, .bool false], []⟩ 8 (by kernel_rfl) (by kernel_rfl) (by kernel_rfl) (by kernel_rfl)) ?_
  intro W base args ds gs before hval0 hW _ hsz _
  have hval : ∀ (j : Nat) t v, Try.f3.params[j]? = some t → args[j]? = some v → Value.okWide Try.prog W .any base t v := hval0
  have hW' := hW
  obtain ⟨p, q, hA0, hV, rfl, hfz, hnd⟩ := hW
  have hA : DataW.TrodAll enc Try.prog W 0 (fun _ => true) true Try.f3.params.toList args.toList ds p := hA0
  rw [Try.params3] at hA hval
  obtain ⟨v0, vs0, d0, ds0, p0, q0, ea, rfl, rfl, h0, r0⟩ := trodAll_cons hA
  obtain ⟨v1, vs1, d1, ds1, p1, q1, rfl, rfl, rfl, h1, r1⟩ := trodAll_cons r0
  obtain ⟨v2, vs2, d2, ds2, p2, q2, rfl, rfl, rfl, h2, r2⟩ := trodAll_cons r1
  obtain ⟨v3, vs3, d3, ds3, p3, q3, rfl, rfl, rfl, h3, r3⟩ := trodAll_cons r2
  obtain ⟨v4, vs4, d4, ds4, p4, q4, rfl, rfl, rfl, h4, r4⟩ := trodAll_cons r3
  obtain ⟨rfl, rfl, rfl⟩ := trodAll_nil r4
  obtain rfl : args = #[v0, v1, v2, v3, v4] := by cases args; simp_all
  obtain ⟨rfl, rfl⟩ := trodVars_none hV
  obtain ⟨l0, i0, n0, back0⟩ := open_list (hval 0 22 v0 rfl rfl) h0
  have b0 : l0.length ≤ 17592186044416 := n0 _ fun elems spare hd => by
    have h1 := sized_slice hsz (j := 0) (t := 22) (e := 3) rfl (by rw [← hd]; rfl) Try.underlying22
    have h2 : Try.checked.prog.bytesOf 3 = 8 := by kernel_rfl
    rw [h2] at h1
    have h3 := reachBytes_lt
    omega
  obtain ⟨x1, rfl, rfl, rfl, wf1⟩ := open_int Try.underlying3 (hval 1 3 v1 rfl rfl) h1
  obtain ⟨lo1, up1⟩ := wf_i64 wf1
  obtain ⟨l2, a2⟩ := open_acts (hval 2 23 v2 rfl rfl) h2
  obtain ⟨l3, a3⟩ := open_acts (hval 3 23 v3 rfl rfl) h3
  obtain ⟨x4, rfl, rfl, rfl⟩ := open_bool Try.underlying4 (hval 4 4 v4 rfl rfl) h4
  clear hA0 hval0
  simp only [List.append_nil] at hW'
  refine (jumpsTells_row l0 x1 l2 l3 x4 v0 v2 v3 W i0 b0 lo1 up1 a2 a3).mono fun e W' ⟨he, hnx⟩ => ?_
  subst he
  refine ⟨_, rfl, _, _, _, [], (p0 ++ ([] ++ (p2 ++ (p3 ++ ([] ++ []))))), [], hW', ?_, ?_, rfl, hnx.frame _, fun h => by cases h⟩
  · exact trodAll_mk1 (shut_bool Try.underlying4 _)
  · exact ⟨_, _, (back0 _ hnx), ⟨_, _, (shut_int Try.underlying3 wf1), ⟨_, _, (shut_acts h2 hnx), ⟨_, _, (shut_acts h3 hnx), ⟨_, _, (shut_bool Try.underlying4 _), (by simp [DataW.TrodAll]), rfl⟩, rfl⟩, rfl⟩, rfl⟩, rfl⟩
theorem jumpsTells_holds : Rows.JumpsTellsSaid :=
  OpenClaim.holds_of_wide 3 Try.f3 rfl rfl rfl rfl rfl rfl rfl ⟨rfl, rfl, rfl, rfl, rfl⟩ rfl rfl rfl rfl rfl (by kernel_rfl) Try.func3 (by kernel_rfl)
    (of_decide_eq_true (by kernel_rfl)) (by unfold Func.isWrapper; first | (rw [if_pos (by decide +kernel)]; kernel_rfl) | (rw [if_neg (by decide +kernel)]; exact ⟨rfl, rfl⟩))
    (fun os started H enc _ => jumpsTells_lifted os started H enc)
end Go.Proofs.Ytnfkjmafhaecgaa
