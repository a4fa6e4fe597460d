/- What the statements' own 'read' answers. -/
import Derived.Test.YtbjdnniklcmcbaaDoorPn
import Derived.Test.YtbjdnniklcmcbaaDoorPe
namespace Go.Proofs.YtbjdnniklcmcbaaDoor
open Go.RowKit
attribute [local go_sem] run_store_complex

theorem results_cell_tmp3 {fn : Func} {p u v z : Tmp} {ty : TypeId} (h : fn.results = #[.cell p ty, .tmp u, .tmp v, .tmp z]) (tmps : Array Value) (P : Program) (w : World) :
    (results fn tmps).run P w =
      ((asAddr (tmps.getD p undef)).run P w).andThen fun a w₁ => ((loadVar ty a).run P w₁).andThen fun x w₂ => .ok (.tuple #[x, tmps.getD u undef, tmps.getD v undef, tmps.getD z undef]) w₂ := by
  simp only [results, h]
  simp [Sem.run_bind, Result.andThen]
theorem ret_four {fn : Func} {p u v z : Tmp} (h : fn.results = #[.cell p 25, .tmp u, .tmp v, .tmp z]) (tmps : Array Value) {w : World} {B : Nat} {k n : Int} {s : ByteArray} {x y1 y2 y3 : Value} (hp : tmps.getD p undef = .pointer (some ⟨B, 0, none⟩)) (hu : tmps.getD u undef = y1) (hv : tmps.getD v undef = y2) (hz : tmps.getD z undef = y3) (hB : Bx w B k n s x) :
    (results fn tmps).run Tryd.prog w = .ok (.tuple #[.agg #[.int .i64 k, .int .i64 n, .string s, x], y1, y2, y3]) w := by
  rw [results_cell_tmp3 h, hp, hu, hv, hz]
  have := run_loadVar_mid (P := Tryd.prog) w B 0 25 _ _ hB.range Tryd.underlying25 rfl esizeEx
  simp [asAddr, Result.andThen, this]

/-- A text's expression, where it ends, how many tokens there are. -/
def Px.rd (s : List UInt8) : Option Ex × Nat × Nat :=
  match Lx.toks s with
  | .bad _ => (none, 0, 0)
  | .good ts => ((Px.read (ts.map Lx.Tk.core)).1, ts.length - (Px.read (ts.map Lx.Tk.core)).2.length, ts.length)
theorem Px.rd_bad {s : List UInt8} {q : Nat} (h : Lx.toks s = .bad q) : Px.rd s = (none, 0, 0) := by unfold Px.rd; rw [h]
theorem Px.rd_good {s : List UInt8} {ts : List Lx.Tk} {o : Option Ex} {m : List Lx.Core} (h : Lx.toks s = .good ts) (hr : Px.read (ts.map Lx.Tk.core) = (o, m)) : Px.rd s = (o, ts.length - m.length, ts.length) := by unfold Px.rd; rw [h]; simp only [hr]

def GotL (w : World) (r : Option Ex × Nat × Nat) (e : Ending) (w' : World) : Prop :=
  ∃ (x : Ex) (b : Bool) (p n : Nat) (a : Option Addr) (l q : Nat), e = .returned (.tuple #[.agg #[.int .i64 x.kind, .int .i64 x.n, .string x.name, .slice a l q], .int .i64 (p : Int), .bool b, .int .i64 (n : Int)]) ∧ x = oe r.1 ∧ b = r.1.isSome ∧ p = r.2.1 ∧ n = r.2.2 ∧ ExsIn w' w.heap.size w'.heap.size x.of (.slice a l q) ∧ Kept w w'

set_option maxRecDepth 100000 in
set_option maxHeartbeats 1000000 in
theorem lread_any (s : ByteArray) (hs : s.size ≤ 1125899906842624) (w : World) (hE : Env w) (r : Option Ex × Nat × Nat) (hr : Px.rd s.data.toList = r) :
    Calls Tryd.prog 7 #[.string s] w fun e w' => GotL w r e w' := by
  have TOK : Hid (Calls Tryd.prog 15 #[.string s] (zw w) fun e w' => ∃ v p q, e = .returned (.tuple #[v, p, q]) ∧ Told s (zw w) (Lx.toks s.data.toList) v p q w') := tokens_any _ _ hs (hE.er.kept (zw_kept w)) _ rfl
  have HRR : Hid (Px.rd s.data.toList = r) := hr
  clear hs hE hr
  go_enter Tryd.func7, Tryd.ntmps7
  go_wp2_with fail
  refine TOK.out.mono ?_
  rintro e w1 ⟨v, pp, qq, rfl, htold⟩
  cases hto : Lx.toks s.data.toList with
  | bad q =>
    rw [hto] at htold
    obtain ⟨rfl, rfl, rfl, hb⟩ := htold
    have HZ : Hid (Bx w1 w.heap.size 0 0 ⟨#[]⟩ (.slice none 0 0)) := (zw_bx w).kept hb
    obtain ⟨z0, z1, z2, z3, zf⟩ := HZ.out
    have HK : Hid (Kept w w1) := (zw_kept w).then hb
    have HRB : Hid (r = (none, 0, 0)) := by rw [← HRR.out]; exact Px.rd_bad hto
    have hw1 := HZ.out.lt
    clear hb hto
    go_wp2_with fail
    have hbx := HZ.out.set 0 0 ⟨#[]⟩ (.slice none 0 0)
    have hfin : GotL w r (.returned (.tuple #[.agg #[.int .i64 ex0.kind, .int .i64 ex0.n, .string ex0.name, .slice none 0 0], .int .i64 ((0 : Nat) : Int), .bool false, .int .i64 ((0 : Nat) : Int)])) (w1.setCells w.heap.size 0 [.int .i64 0, .int .i64 0, .string ⟨#[]⟩, .slice none 0 0]) := by
      rw [HRB.out]
      exact ⟨ex0, false, 0, 0, none, 0, 0, rfl, rfl, rfl, rfl, rfl, ExsD.nil _ _, Below.setCells HK.out (Nat.le_refl _) _ _⟩
    exact bodyPost_ret (ret_four Tryd.results7 _ rfl rfl rfl rfl hbx) rfl hfin
  | good ts =>
    rw [hto] at htold
    have hne : ts ≠ [] := Px.toks_ne _ _ hto
    obtain ⟨g, cap, rfl, rfl, rfl, hg0, hg1, hrow, hb⟩ := told_good htold hne
    have hpos : 0 < ts.length := List.length_pos_iff.2 hne
    have hcnt := Px.toks_count _ _ hto
    obtain ⟨o, m, hrd⟩ : ∃ o m, Px.read (ts.map Lx.Tk.core) = (o, m) := ⟨_, _, rfl⟩
    have READ : Hid (Calls Tryd.prog 16 #[.slice (some ⟨g, 0, none⟩) ts.length cap, .int .i64 0] w1 fun e w' => Got w1 ts o m e w') := read_any hrow hg1 hpos hcnt o m hrd
    have HZ : Hid (Bx w1 w.heap.size 0 0 ⟨#[]⟩ (.slice none 0 0)) := (zw_bx w).kept hb
    have HK : Hid (Kept w w1) := (zw_kept w).then hb
    have HRG : Hid (r = (o, ts.length - m.length, ts.length)) := by rw [← HRR.out]; exact Px.rd_good hto hrd
    obtain ⟨N, hN⟩ : ∃ N, ts.length = N := ⟨_, rfl⟩
    have HN : Hid (ts.length = N) := hN
    have hN0 : ((N : Int) == 0) = false := ne_int (by omega)
    rw [hN]
    rw [hN] at READ
    clear htold hb hto hne hrd hrow hg0 hg1 hpos hN
    go_wp2_with fail
    refine READ.out.mono ?_
    rintro e w2 ⟨y, b, p, ya, yn, yq, rfl, hy, hbb, hp, hT, hK2⟩
    have HY : Hid (y = oe o ∧ b = o.isSome ∧ p = ts.length - m.length ∧ ExsIn w2 w1.heap.size w2.heap.size y.of (.slice ya yn yq) ∧ Kept w1 w2) := ⟨hy, hbb, hp, hT, hK2⟩
    have HZ2 : Hid (Bx w2 w.heap.size 0 0 ⟨#[]⟩ (.slice none 0 0)) := HZ.out.kept hK2
    obtain ⟨z0, z1, z2, z3, zf⟩ := HZ2.out
    have hw1 := HZ.out.lt
    have hw2 := HZ2.out.lt
    clear hy hbb hp hT hK2
    go_wp2_with fail
    obtain ⟨hy, hbb, hp, hT, hK2⟩ := HY.out
    have hbx := (HZ2.out.set y.kind y.n y.name (.slice ya yn yq)).kept ((Kept.refl _).al (.cells #[.int .i64 y.kind, .int .i64 y.n, .string y.name, .slice ya yn yq] 25))
    have hfin : GotL w r (.returned (.tuple #[.agg #[.int .i64 y.kind, .int .i64 y.n, .string y.name, .slice ya yn yq], .int .i64 (p : Int), .bool b, .int .i64 (N : Int)])) ((w2.setCells w.heap.size 0 [.int .i64 y.kind, .int .i64 y.n, .string y.name, .slice ya yn yq]).alloc (.cells #[.int .i64 y.kind, .int .i64 y.n, .string y.name, .slice ya yn yq] 25)) := by
      rw [HRG.out]
      refine ⟨y, b, p, N, ya, yn, yq, rfl, hy, hbb, hp, HN.out.symm, ?_, (Below.setCells (HK.out.then hK2) (Nat.le_refl _) _ _).trans (Below.mono ((Kept.refl _).al _) (by rw [size_setCells]; exact Nat.le_trans HK.out.size hK2.size))⟩
      have ht : ExsD w2 (fun k => w.heap.size < k ∧ k < w2.heap.size) y.of (.slice ya yn yq) := hT.mono fun k hk => ⟨by have := hk.1; omega, hk.2⟩
      exact (tree_up ((Kept.refl _).al _) ht).mono fun k hk => ⟨by have := hk.1; omega, hk.2⟩
    exact bodyPost_ret (ret_four Tryd.results7 _ rfl rfl rfl rfl hbx) rfl hfin
#print axioms lread_any
end Go.Proofs.YtbjdnniklcmcbaaDoor
