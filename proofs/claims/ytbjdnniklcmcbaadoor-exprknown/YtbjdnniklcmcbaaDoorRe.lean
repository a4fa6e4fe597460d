/- What expr.Read answers, from the first token on. -/
import Derived.Test.YtbjdnniklcmcbaaDoorRg
namespace Go.Proofs.YtbjdnniklcmcbaaDoor
open Go.RowKit
attribute [local go_sem] run_store_complex

theorem results_cell_tmp2 {fn : Func} {p u v : Tmp} {ty : TypeId} (h : fn.results = #[.cell p ty, .tmp u, .tmp v]) (tmps : Array Value) (P : Program) (w : World) :
    (results fn tmps).run P w =
      ((asAddr (tmps.getD p undef)).run P w).andThen fun a w₁ => ((loadVar ty a).run P w₁).andThen fun x w₂ => .ok (.tuple #[x, tmps.getD u undef, tmps.getD v undef]) w₂ := by
  simp only [results, h]
  simp [Sem.run_bind, Result.andThen]
theorem ret_read {fn : Func} {p u v : Tmp} (h : fn.results = #[.cell p 25, .tmp u, .tmp v]) (tmps : Array Value) {w : World} {B : Nat} {k n : Int} {s : ByteArray} {x y z : Value} (hp : tmps.getD p undef = .pointer (some ⟨B, 0, none⟩)) (hu : tmps.getD u undef = y) (hv : tmps.getD v undef = z) (hB : Bx w B k n s x) :
    (results fn tmps).run Tryd.prog w = .ok (.tuple #[.agg #[.int .i64 k, .int .i64 n, .string s, x], y, z]) w := by
  rw [results_cell_tmp2 h, hp, hu, hv]
  have := run_loadVar_mid (P := Tryd.prog) w B 0 25 _ _ hB.range Tryd.underlying25 rfl esizeEx
  simp [asAddr, Result.andThen, this]

/-- What Read leaves. -/
def Got (w : World) (ts : List Lx.Tk) (o : Option Ex) (m : List Lx.Core) (e : Ending) (w' : World) : Prop :=
  ∃ (x : Ex) (b : Bool) (p : Nat) (a : Option Addr) (n q : Nat), e = .returned (.tuple #[.agg #[.int .i64 x.kind, .int .i64 x.n, .string x.name, .slice a n q], .int .i64 (p : Int), .bool b]) ∧ x = oe o ∧ b = o.isSome ∧ p = ts.length - m.length ∧ ExsIn w' w.heap.size w'.heap.size x.of (.slice a n q) ∧ Kept w w'

set_option maxRecDepth 100000 in
set_option maxHeartbeats 1000000 in
theorem read_any {g cap : Nat} {s : ByteArray} {ts : List Lx.Tk} {w : World} (hr : Row s ts g w) (hg : g < w.heap.size) (h0 : 0 < ts.length) (hf : ts.length ≤ 6001) (o : Option Ex) (m : List Lx.Core) (hp : Px.expr (Px.fac 8) (ts.map Lx.Tk.core) = (o, m)) :
    Calls Tryd.prog 16 #[.slice (some ⟨g, 0, none⟩) ts.length cap, .int .i64 0] w fun e w' => Got w ts o m e w' := by
  obtain ⟨W1, hW1⟩ : ∃ W1, (zw w).alloc (.cells #[.slice (some ⟨g, 0, none⟩) ts.length cap, .int .i64 0, .int .i64 0] 55) = W1 := ⟨_, rfl⟩
  have hk1 : Kept w W1 := by rw [← hW1]; exact (zw_kept w).al _
  have hkz : Kept (zw w) W1 := by rw [← hW1]; exact (Kept.refl _).al _
  have hD : Rd W1 (w.heap.size + 1) g cap s ts 0 0 := by
    refine ⟨?_, ?_, ?_, ?_, ?_, ⟨fun j hj => (hk1.cell (p := ⟨g, j, none⟩) hg).trans (hr.cells j hj)⟩, by omega, Nat.lt_of_lt_of_le hg hk1.size, hf, Nat.zero_le _, by decide⟩
    all_goals (rw [← hW1]; simp)
  have HC : Hid (Calls Tryd.prog 22 #[.pointer (some ⟨w.heap.size + 1, 0, none⟩)] W1 fun e w' => Red (w.heap.size + 1) g cap s ts 0 W1 o m e w') := (methods 8 0 rfl).2 _ _ _ _ _ _ _ hD o m hp
  have HZ1 : Hid (Bx W1 w.heap.size 0 0 ⟨#[]⟩ (.slice none 0 0)) := (zw_bx w).kept hkz
  have HK1 : Hid (Kept w W1) := hk1
  have hsz : W1.heap.size = w.heap.size + 2 := by rw [← hW1]; simp
  have g0 : decide ((ts.length : Int) ≤ 0) = false := decide_eq_false (by omega)
  obtain ⟨N, hN⟩ : ∃ N, ts.length = N := ⟨_, rfl⟩
  have HN : Hid (ts.length = N) := hN
  rw [hN] at hW1 g0 h0 ⊢
  have HW1 : Hid _ := hW1
  clear hD hk1 hkz hp hr hN hf hW1
  go_enter Tryd.func16, Tryd.ntmps16
  go_wp2_with fail
  rw [show _ = W1 from HW1.out]
  refine HC.out.mono ?_
  rintro e w1 ⟨x, b, a1, n1, q1, rfl, hx, hb, hT, hB, hDr⟩
  have HZ : Hid (Bx w1 w.heap.size 0 0 ⟨#[]⟩ (.slice none 0 0)) := HZ1.out.but hB (by omega)
  have HX : Hid (x = oe o ∧ b = o.isSome ∧ ExsIn w1 W1.heap.size w1.heap.size x.of (.slice a1 n1 q1) ∧ But (w.heap.size + 1) W1 w1) := ⟨hx, hb, hT, hB⟩
  obtain ⟨r0, r1, r2, rz1, rz2, -⟩ := hDr
  obtain ⟨z0, z1, z2, z3, zf⟩ := HZ.out
  have hw1 := HZ.out.lt
  have hR1 : w.heap.size + 1 < w1.heap.size := block_lt_of_cell r0
  have HPO : ∃ pos, Hid (pos = ts.length - m.length) := ⟨_, rfl⟩
  obtain ⟨pos, HPO⟩ := HPO
  rw [← HPO.out] at r1
  rw [HN.out] at r0
  clear hx hb hT hB
  go_wp2_with fail
  go_region
  go_wp2_with fail
  obtain ⟨hx, hb, hT, hB⟩ := HX.out
  have q1' := (HZ.out.set x.kind x.n x.name (.slice a1 n1 q1)).set x.kind x.n x.name (.slice a1 n1 q1)
  have hkw : Kept w w1 := hB.kept HK1.out (by omega)
  obtain ⟨Wf, hWf⟩ : ∃ Wf, (w1.setCells w.heap.size 0 [.int .i64 x.kind, .int .i64 x.n, .string x.name, .slice a1 n1 q1]).setCells w.heap.size 0 [.int .i64 x.kind, .int .i64 x.n, .string x.name, .slice a1 n1 q1] = Wf := ⟨_, rfl⟩
  have hkf : Kept w Wf := by rw [← hWf]; exact Below.setCells (Below.setCells hkw (Nat.le_refl _) _ _) (Nat.le_refl _) _ _
  have hbl : ∀ i, i ≠ w.heap.size → Wf.heap[i]? = w1.heap[i]? := fun i hi => by rw [← hWf]; exact (heap_setCells _ _ _ _ i hi).trans (heap_setCells _ _ _ _ i hi)
  have hszf : Wf.heap.size = w1.heap.size := by rw [← hWf, size_setCells, size_setCells]
  rw [hWf] at q1'
  have hdd : Kept Wf Wf.drew := (Kept.refl _).dr
  have hfin : Got w ts o m (.returned (.tuple #[.agg #[.int .i64 x.kind, .int .i64 x.n, .string x.name, .slice a1 n1 q1], .int .i64 (pos : Int), .bool b])) Wf.drew := by
    refine ⟨x, b, pos, a1, n1, q1, rfl, hx, hb, HPO.out, ?_, hkf.dr⟩
    refine ((hT.stays fun k hk => hbl k (by have := hk.1; omega)).stays fun k hk => hdd.block k (by have := hk.2; omega)).mono fun k hk => ⟨by have := hk.1; omega, ?_⟩
    have := hk.2
    show k < Wf.heap.size
    omega
  have hbx := q1'.kept hdd
  rw [← hWf] at hfin hbx
  exact bodyPost_ret (ret_read Tryd.results16 _ rfl rfl rfl hbx) rfl hfin
#print axioms read_any
end Go.Proofs.YtbjdnniklcmcbaaDoor
