/- The reader's methods: term, sum, minus, parentheses, inner, factor, expression. The reader's methods expression and factor; then all of them, however deep. What expr.Read answers, from any token on. -/
import Derived.Test.YtkobdephobaopaaGreatDoorRdA

namespace Go.Proofs.YtkobdephobaopaaGreatDoor
open Go.RowKit
attribute [local go_sem] run_store_complex

theorem enter44 (args : Array Value) (w : World) : (callFunc 160 args).run Tryz.prog w = .ok (.enter 160 args) w := enters_of Tryz.func160 (by kernel_rfl) rfl args w
theorem enter50 (args : Array Value) (w : World) : (callFunc 167 args).run Tryz.prog w = .ok (.enter 167 args) w := enters_of Tryz.func167 (by kernel_rfl) rfl args w
theorem enter64 (args : Array Value) (w : World) : (callFunc 171 args).run Tryz.prog w = .ok (.enter 171 args) w := enters_of Tryz.func171 (by kernel_rfl) rfl args w
theorem enter65 (args : Array Value) (w : World) : (callFunc 172 args).run Tryz.prog w = .ok (.enter 172 args) w := enters_of Tryz.func172 (by kernel_rfl) rfl args w

/-- The world behind the answer's own new cell. -/
abbrev zw (w : World) : World := w.alloc (.cells #[.int .i64 0, .int .i64 0, .string ⟨#[]⟩, .slice none 0 0] 44)
theorem zw_kept (w : World) : Kept w (zw w) := (Kept.refl _).al _
theorem zw_size (w : World) : (zw w).heap.size = w.heap.size + 1 := by simp
theorem zw_bx (w : World) : Bx (zw w) w.heap.size 0 0 ⟨#[]⟩ (.slice none 0 0) := Bx.new ..
theorem up_tree {w w1 : World} {x : Ex} {v : Value} (h : ExsIn w1 (zw w).heap.size w1.heap.size x.of v) : ExsD w1 (fun k => w.heap.size < k ∧ k < w1.heap.size) x.of v :=
  h.mono fun k hk => ⟨by have := hk.1; rw [zw_size] at this; omega, hk.2⟩

theorem heap_at {W : World} {k : Nat} (h : W.heap.size = k) (o : Obj) : (W.alloc o).heap[k]? = some o := by subst h; exact heap_alloc_new _ _
theorem tree_up {B : Nat} {cs : List Value} {wr W : World} {l : List Ex} {v : Value} (hK : Kept (wr.setCells B 0 cs) W) (hT : ExsD wr (fun k => B < k ∧ k < wr.heap.size) l v) : ExsD W (fun k => B < k ∧ k < W.heap.size) l v := by
  have hs := hK.size
  rw [size_setCells] at hs
  refine (hT.stays fun k hk => (hK.block k (by rw [size_setCells]; exact hk.2)).trans (heap_setCells _ _ _ _ k (by have := hk.1; omega))).mono fun k hk => ⟨hk.1, by have := hk.2; omega⟩
/-- The end of a method, with new blocks behind. -/
theorem red_endK {fn : Func} {p u : Tmp} (hf : fn.results = #[.cell p 44, .tmp u]) {tmps : Array Value} {w wr W : World} {R g cap : Nat} {s : ByteArray} {ts : List Lx.Tk} {d b : Nat} {o : Option Ex} {m : List Lx.Core} (x : Ex) (ok : Bool) {a : Option Addr} {n q : Nat} {k0 n0 : Int} {s0 : ByteArray} {v0 : Value}
    (hp : tmps.getD p undef = .pointer (some ⟨w.heap.size, 0, none⟩)) (hu : tmps.getD u undef = .bool ok) (hz : Bx wr w.heap.size k0 n0 s0 v0) (hK : Kept (wr.setCells w.heap.size 0 [.int .i64 x.kind, .int .i64 x.n, .string x.name, .slice a n q]) W) (hT : ExsD W (fun k => w.heap.size < k ∧ k < W.heap.size) x.of (.slice a n q)) (hB : But R w wr) (hR : Rd wr R g cap s ts b d) (hRw : R < w.heap.size) (hgw : g < w.heap.size)
    (hx : x = oe o) (hb : ok = o.isSome) (hm : b = ts.length - m.length) :
    bodyPost Tryz.prog fn (fun e w' => Red R g cap s ts d w o m e w') .ret { tmps := tmps, defers := [] } W := by
  have hq := (hz.set x.kind x.n x.name (.slice a n q)).kept hK
  refine bodyPost_ret (ret_red hf _ hp hu hq) rfl ⟨x, ok, a, n, q, rfl, hx, hb, ?_, (hB.sets (Nat.le_refl _) _ _).then (But.of hK), ?_⟩
  · exact hT.mono fun k hk => ⟨by have := hk.1; omega, hk.2⟩
  · rw [← hm]; exact (hR.sets (by omega) (by omega) _ _).kept hK

set_option maxRecDepth 100000 in
set_option maxHeartbeats 1000000 in
theorem term_any (d : Nat) (f : Px.P) (hs : Px.Suf f) (H : PM 167 d f) : PM 160 d (Px.row 3 f) := by
  intro R g cap s ts a w h o m hp
  have HR : Hid (Rd w R g cap s ts a d) := h
  have HC : Hid (Calls Tryz.prog 159 #[.pointer (some ⟨R, 0, none⟩), .int .i64 3, .func (.func 167) #[.pointer (some ⟨R, 0, none⟩)] #[]] (zw w) fun e w' => Red R g cap s ts d (zw w) o m e w') := row_any 167 d 3 f enter50 hs H (by omega) (h.kept (zw_kept w)) o m hp
  clear h hp
  go_enter Tryz.func160, Tryz.ntmps160
  go_wp2_with fail
  refine HC.out.mono ?_
  rintro e w1 ⟨x, b, a1, n1, q1, rfl, hx, hb, hT, hB, hD⟩
  have hRw := HR.out.rlt
  have hz := (zw_bx w).but hB (by omega)
  have HZ : Hid (Bx w1 w.heap.size 0 0 ⟨#[]⟩ (.slice none 0 0)) := hz
  have HX : Hid (x = oe o ∧ b = o.isSome ∧ ExsIn w1 (zw w).heap.size w1.heap.size x.of (.slice a1 n1 q1) ∧ But R (zw w) w1 ∧ Rd w1 R g cap s ts (ts.length - m.length) d) := ⟨hx, hb, hT, hB, hD⟩
  obtain ⟨y0, y1, y2, y3, yf⟩ := hz
  clear hx hb hT hB hD
  go_wp2_with fail
  obtain ⟨hx, hb, hT, hB, hD⟩ := HX.out
  exact red_end Tryz.results160 (x := x) (ok := b) rfl rfl HZ.out (up_tree hT) ((But.of (zw_kept w)).then hB) hD hRw HR.out.lt hx hb rfl

set_option maxRecDepth 100000 in
set_option maxHeartbeats 1000000 in
theorem sum_any (d : Nat) (f : Px.P) (hs : Px.Suf f) (H : PM 167 d f) : PM 149 d (Px.sum f) := by
  intro R g cap s ts a w h o m hp
  have HR : Hid (Rd w R g cap s ts a d) := h
  have HC : Hid (Calls Tryz.prog 159 #[.pointer (some ⟨R, 0, none⟩), .int .i64 2, .func (.func 160) #[.pointer (some ⟨R, 0, none⟩)] #[]] (zw w) fun e w' => Red R g cap s ts d (zw w) o m e w') := row_any 160 d 2 (Px.row 3 f) enter44 (Px.row_suf hs) (term_any d f hs H) (by omega) (h.kept (zw_kept w)) o m hp
  clear h hp H
  go_enter Tryz.func149, Tryz.ntmps149
  go_wp2_with fail
  refine HC.out.mono ?_
  rintro e w1 ⟨x, b, a1, n1, q1, rfl, hx, hb, hT, hB, hD⟩
  have hRw := HR.out.rlt
  have hz := (zw_bx w).but hB (by omega)
  have HZ : Hid (Bx w1 w.heap.size 0 0 ⟨#[]⟩ (.slice none 0 0)) := hz
  have HX : Hid (x = oe o ∧ b = o.isSome ∧ ExsIn w1 (zw w).heap.size w1.heap.size x.of (.slice a1 n1 q1) ∧ But R (zw w) w1 ∧ Rd w1 R g cap s ts (ts.length - m.length) d) := ⟨hx, hb, hT, hB, hD⟩
  obtain ⟨y0, y1, y2, y3, yf⟩ := hz
  clear hx hb hT hB hD
  go_wp2_with fail
  obtain ⟨hx, hb, hT, hB, hD⟩ := HX.out
  exact red_end Tryz.results149 (x := x) (ok := b) rfl rfl HZ.out (up_tree hT) ((But.of (zw_kept w)).then hB) hD hRw HR.out.lt hx hb rfl

set_option maxRecDepth 100000 in
set_option maxHeartbeats 1000000 in
theorem inner_any (F : Nat) (hF : ∀ args w, (callFunc F args).run Tryz.prog w = .ok (.enter F args) w) (d : Nat) (hd : d < 8) (f : Px.P) (H : PM F (d + 1) f) {R g cap : Nat} {s : ByteArray} {ts : List Lx.Tk} {a : Nat} {w : World} (h : Rd w R g cap s ts a d) (ha : a < ts.length) (o : Option Ex) (m : List Lx.Core) (hp : f (left ts (a + 1)) = (o, m)) :
    Calls Tryz.prog 170 #[.pointer (some ⟨R, 0, none⟩), .func (.func F) #[.pointer (some ⟨R, 0, none⟩)] #[]] w fun e w' => Red R g cap s ts d w o m e w' := by
  have HR : Hid (Rd w R g cap s ts a d) := h
  have hD1 : Rd (zw ((w.setCell ⟨R, 1, none⟩ (.int .i64 ((a : Int) + 1))).setCell ⟨R, 2, none⟩ (.int .i64 ((d : Int) + 1)))) R g cap s ts (a + 1) (d + 1) := ((h.at' (a + 1) ha).deep (d + 1) hd).kept (zw_kept _)
  have HC : Hid (Calls Tryz.prog F #[.pointer (some ⟨R, 0, none⟩)] (zw ((w.setCell ⟨R, 1, none⟩ (.int .i64 ((a : Int) + 1))).setCell ⟨R, 2, none⟩ (.int .i64 ((d : Int) + 1)))) fun e w' => Red R g cap s ts (d + 1) (zw ((w.setCell ⟨R, 1, none⟩ (.int .i64 ((a : Int) + 1))).setCell ⟨R, 2, none⟩ (.int .i64 ((d : Int) + 1)))) o m e w') := H R g cap s ts (a + 1) _ hD1 o m hp
  have hRw := h.rlt
  have hfew := h.few
  obtain ⟨r0, r1, r2, rz1, rz2, -⟩ := h
  clear hD1 hp H
  go_enter Tryz.func170, Tryz.ntmps170
  go_wp2_with fail
  refine HC.out.mono ?_
  have hBw : But R w (zw ((w.setCell ⟨R, 1, none⟩ (.int .i64 ((a : Int) + 1))).setCell ⟨R, 2, none⟩ (.int .i64 ((d : Int) + 1)))) := (((But.refl R w).set 1 _).set 2 _).then (But.of (zw_kept _))
  have hzb : Bx (zw ((w.setCell ⟨R, 1, none⟩ (.int .i64 ((a : Int) + 1))).setCell ⟨R, 2, none⟩ (.int .i64 ((d : Int) + 1)))) w.heap.size 0 0 ⟨#[]⟩ (.slice none 0 0) := by
    have := zw_bx ((w.setCell ⟨R, 1, none⟩ (.int .i64 ((a : Int) + 1))).setCell ⟨R, 2, none⟩ (.int .i64 ((d : Int) + 1))); rwa [setCell_size, setCell_size] at this
  have hsz : (zw ((w.setCell ⟨R, 1, none⟩ (.int .i64 ((a : Int) + 1))).setCell ⟨R, 2, none⟩ (.int .i64 ((d : Int) + 1)))).heap.size = (zw w).heap.size := by simp
  generalize (zw ((w.setCell ⟨R, 1, none⟩ (.int .i64 ((a : Int) + 1))).setCell ⟨R, 2, none⟩ (.int .i64 ((d : Int) + 1)))) = W1 at *
  rintro e w1 ⟨x, b, a1, n1, q1, rfl, hx, hb, hT, hB, hD⟩
  rw [hsz] at hT
  have hz := hzb.but hB (by omega)
  have HZ : Hid (Bx w1 w.heap.size 0 0 ⟨#[]⟩ (.slice none 0 0)) := hz
  have HX : Hid (x = oe o ∧ b = o.isSome ∧ ExsIn w1 (zw w).heap.size w1.heap.size x.of (.slice a1 n1 q1) ∧ But R w w1 ∧ Rd w1 R g cap s ts (ts.length - m.length) (d + 1)) := ⟨hx, hb, hT, hBw.then hB, hD⟩
  obtain ⟨r0', r1', r2', rz1', rz2', -⟩ := hD
  have hR1 := HX.out.2.2.2.2.rlt
  obtain ⟨y0, y1, y2, y3, yf⟩ := hz
  have hw1 : w.heap.size < w1.heap.size := block_lt_of_cell y0
  have hneR : w.heap.size ≠ R := by omega
  clear hx hb hT hB hBw hzb r0 r1 r2 rz1 rz2 hsz
  go_wp2_with fail
  obtain ⟨hx, hb, hT, hB, hD⟩ := HX.out
  have hBs := (But.refl R w1).set 2 (.int .i64 (d : Int))
  have hTs : ExsD (w1.setCell ⟨R, 2, none⟩ (.int .i64 (d : Int))) (fun k => w.heap.size < k ∧ k < (w1.setCell ⟨R, 2, none⟩ (.int .i64 (d : Int))).heap.size) x.of (.slice a1 n1 q1) := by
    rw [setCell_size]; exact (up_tree hT).but hBs fun k hk => ⟨hk.2, by have := hk.1; omega⟩
  have hK : Kept ((w1.setCell ⟨R, 2, none⟩ (.int .i64 (d : Int))).setCells w.heap.size 0 [.int .i64 x.kind, .int .i64 x.n, .string x.name, .slice a1 n1 q1]) (((w1.setCell ⟨R, 2, none⟩ (.int .i64 (d : Int))).setCells w.heap.size 0 [.int .i64 x.kind, .int .i64 x.n, .string x.name, .slice a1 n1 q1]).alloc (.cells #[.int .i64 x.kind, .int .i64 x.n, .string x.name, .slice a1 n1 q1] 44)) := (Kept.refl _).al _
  have hZ' := HZ.out.but hBs hneR
  have hD' := hD.deep d (by omega)
  exact red_endK Tryz.results170 x b rfl rfl hZ' hK (tree_up hK hTs) (hB.then hBs) hD' hRw HR.out.lt hx hb rfl

set_option maxRecDepth 100000 in
set_option maxHeartbeats 1000000 in
theorem minus_any (d : Nat) (f : Px.P) (H : PM 167 d f) : PM 171 d (Px.minus f) := by
  intro R g cap s ts a w h o m hp
  have HR : Hid (Rd w R g cap s ts a d) := h
  obtain ⟨o1, m1, hp1⟩ : ∃ o1 m1, f (left ts a) = (o1, m1) := ⟨_, _, rfl⟩
  have HC : Hid (Calls Tryz.prog 167 #[.pointer (some ⟨R, 0, none⟩)] (zw w) fun e w' => Red R g cap s ts d (zw w) o1 m1 e w') := H R g cap s ts a _ (h.kept (zw_kept w)) o1 m1 hp1
  unfold Px.minus at hp
  rw [hp1] at hp
  have HP : Hid _ := hp
  have hRw := h.rlt
  clear h hp hp1 H
  go_enter Tryz.func171, Tryz.ntmps171
  go_wp2_with fail
  refine HC.out.mono ?_
  rintro e w1 ⟨x, b, a1, n1, q1, rfl, hx, hb, hT, hB, hD⟩
  have hz := (zw_bx w).but hB (by omega)
  have HZ : Hid (Bx w1 w.heap.size 0 0 ⟨#[]⟩ (.slice none 0 0)) := hz
  have HX : Hid (x = oe o1 ∧ ExsIn w1 (zw w).heap.size w1.heap.size x.of (.slice a1 n1 q1) ∧ But R (zw w) w1 ∧ Rd w1 R g cap s ts (ts.length - m1.length) d) := ⟨hx, hT, hB, hD⟩
  obtain ⟨y0, y1, y2, y3, yf⟩ := hz
  have hw1 : w.heap.size < w1.heap.size := block_lt_of_cell y0
  clear hT hB hD
  cases o1 with
  | none =>
    cases hb
    go_wp2_with fail
    obtain ⟨hx, hT, hB, hD⟩ := HX.out
    have e := HP.out
    simp only [Prod.mk.injEq] at e
    obtain ⟨rfl, rfl⟩ := e
    exact red_endK Tryz.results171 ex0 false rfl rfl HZ.out ((Kept.refl _).al _) (ExsD.nil _ _) ((But.of (zw_kept w)).then hB) hD hRw HR.out.lt rfl rfl rfl
  | some y =>
    cases hb
    cases hx
    go_wp2_with fail
    obtain ⟨hx, hT, hB, hD⟩ := HX.out
    have e := HP.out
    simp only [Prod.mk.injEq] at e
    obtain ⟨rfl, rfl⟩ := e
    have hK : Kept (w1.setCells w.heap.size 0 [.int .i64 3, .int .i64 0, .string ⟨#[]⟩, .slice (some ⟨w1.heap.size + 1, 0, none⟩) 1 1]) (((w1.setCells w.heap.size 0 [.int .i64 3, .int .i64 0, .string ⟨#[]⟩, .slice (some ⟨w1.heap.size + 1, 0, none⟩) 1 1]).alloc (.cells #[.int .i64 y.kind, .int .i64 y.n, .string y.name, .slice a1 n1 q1] 44)).alloc (.cells #[.int .i64 y.kind, .int .i64 y.n, .string y.name, .slice a1 n1 q1] 44)) := ((Kept.refl _).al _).al _
    refine red_endK Tryz.results171 (Px.minusE y) true rfl rfl HZ.out hK ?_ ((But.of (zw_kept w)).then hB) hD hRw HR.out.lt rfl rfl rfl
    refine ExsD.one (v := .slice a1 n1 q1) ⟨by omega, by simp⟩ ?_ (tree_up hK (up_tree hT))
    exact heap_at (by simp) _

set_option maxRecDepth 100000 in
set_option maxHeartbeats 1000000 in
theorem paren_any (d : Nat) (f : Px.P) (hs : Px.Suf f) (H : PM 136 d (Px.expr f)) : PM 172 d (Px.paren f) := by
  intro R g cap s ts a w h o m hp
  have HR : Hid (Rd w R g cap s ts a d) := h
  obtain ⟨o1, m1, hp1⟩ : ∃ o1 m1, Px.expr f (left ts a) = (o1, m1) := ⟨_, _, rfl⟩
  have HC : Hid (Calls Tryz.prog 136 #[.pointer (some ⟨R, 0, none⟩)] (zw w) fun e w' => Red R g cap s ts d (zw w) o1 m1 e w') := H R g cap s ts a _ (h.kept (zw_kept w)) o1 m1 hp1
  have hsuf : m1 <:+ left ts a := by have := Px.expr_suf hs (left ts a); rw [hp1] at this; exact this
  have HL : Hid (left ts (ts.length - m1.length) = m1) := suf_left hsuf
  have HML : Hid (m1.length ≤ ts.length) := by have := suf_len hsuf; show m1.length ≤ ts.length; omega
  unfold Px.paren at hp
  rw [hp1] at hp
  have HP : Hid _ := hp
  have hRw := h.rlt
  have hfew := h.few
  clear h hp hp1 H hsuf
  go_enter Tryz.func172, Tryz.ntmps172
  go_wp2_with fail
  refine HC.out.mono ?_
  rintro e w1 ⟨x, b, a1, n1, q1, rfl, hx, hb, hT, hB, hD⟩
  have hz := (zw_bx w).but hB (by omega)
  have HZ : Hid (Bx w1 w.heap.size 0 0 ⟨#[]⟩ (.slice none 0 0)) := hz
  have HX : Hid (x = oe o1 ∧ ExsIn w1 (zw w).heap.size w1.heap.size x.of (.slice a1 n1 q1) ∧ But R (zw w) w1 ∧ Rd w1 R g cap s ts (ts.length - m1.length) d) := ⟨hx, hT, hB, hD⟩
  obtain ⟨y0, y1, y2, y3, yf⟩ := hz
  have hw1 : w.heap.size < w1.heap.size := block_lt_of_cell y0
  clear hT hB hD
  cases o1 with
  | none =>
    cases hb
    go_wp2_with fail
    obtain ⟨hx, hT, hB, hD⟩ := HX.out
    have e := HP.out
    simp only [Prod.mk.injEq] at e
    obtain ⟨rfl, rfl⟩ := e
    exact red_endK Tryz.results172 ex0 false rfl rfl HZ.out ((Kept.refl _).al _) (ExsD.nil _ _) ((But.of (zw_kept w)).then hB) hD hRw HR.out.lt rfl rfl rfl
  | some y =>
    cases hb
    cases hx
    cases hc : Px.isSg [41] (Px.hd m1) with
    | false =>
      have HI : Hid (∀ W, Kept w1 W → Calls Tryz.prog 161 #[.pointer (some ⟨R, 0, none⟩), .string ⟨#[41]⟩] W fun e w' => e = .returned (.bool false) ∧ Kept W w') := fun W hW => isSign_any (HX.out.2.2.2.kept hW) ⟨#[41]⟩ _ (by rw [HL.out]; exact hc)
      have HCC : Hid (Px.isSg [41] (Px.hd m1) = false) := hc
      clear hc
      go_wp2_with fail
      refine (HI.out _ ((Kept.refl _).al _)).mono ?_
      rintro e w2 ⟨rfl, k2⟩
      have K2 : Hid (Kept w1 w2) := ((Kept.refl w1).al _).then k2
      obtain ⟨z0, z1, z2, z3, zf⟩ := HZ.out.kept K2.out
      have hw2 : w.heap.size < w2.heap.size := block_lt_of_cell z0
      clear k2
      go_wp2_with fail
      obtain ⟨hx, hT, hB, hD⟩ := HX.out
      have e := HP.out
      simp only [HCC.out, Prod.mk.injEq, Bool.false_eq_true, if_false] at e
      obtain ⟨rfl, rfl⟩ := e
      exact red_endK Tryz.results172 ex0 false rfl rfl (HZ.out.kept K2.out) (Kept.refl _) (ExsD.nil _ _) (((But.of (zw_kept w)).then hB).then (But.of K2.out)) (hD.kept K2.out) hRw HR.out.lt rfl rfl rfl
    | true =>
      have HI : Hid (∀ W, Kept w1 W → Calls Tryz.prog 161 #[.pointer (some ⟨R, 0, none⟩), .string ⟨#[41]⟩] W fun e w' => e = .returned (.bool true) ∧ Kept W w') := fun W hW => isSign_any (HX.out.2.2.2.kept hW) ⟨#[41]⟩ _ (by rw [HL.out]; exact hc)
      have HCC : Hid (Px.isSg [41] (Px.hd m1) = true) := hc
      have hlt : ts.length - m1.length < ts.length := hd_lt ts _ (by rw [HL.out, Px.isSg_hd hc]; decide)
      clear hc
      go_wp2_with fail
      refine (HI.out _ ((Kept.refl _).al _)).mono ?_
      rintro e w2 ⟨rfl, k2⟩
      have KA : Hid (Bx w2 w1.heap.size y.kind y.n y.name (.slice a1 n1 q1)) := (Bx.new ..).kept k2
      have K2 : Hid (Kept w1 w2) := ((Kept.refl w1).al _).then k2
      have HD2 : Hid (Rd w2 R g cap s ts (ts.length - m1.length) d) := HX.out.2.2.2.kept K2.out
      obtain ⟨r0, r1, r2, rz1, rz2, -⟩ := HD2.out
      obtain ⟨z0, z1, z2, z3, zf⟩ := HZ.out.kept K2.out
      obtain ⟨c0, c1, c2, c3, cf⟩ := KA.out
      have hw2 : w.heap.size < w2.heap.size := block_lt_of_cell z0
      have hR2 := HD2.out.rlt
      have hw12 := KA.out.lt
      have hneR : w.heap.size ≠ R := by omega
      have hneA : w1.heap.size ≠ R := by omega
      generalize hpos : ts.length - m1.length = pos at *
      clear k2 y0 y1 y2 y3 yf
      go_wp2_with fail
      obtain ⟨hx, hT, hB, hD⟩ := HX.out
      have e := HP.out
      simp only [HCC.out, Prod.mk.injEq, if_true] at e
      obtain ⟨rfl, rfl⟩ := e
      have hBs := (But.refl R w2).set 1 (.int .i64 ((pos : Int) + 1))
      have hTs : ExsD (w2.setCell ⟨R, 1, none⟩ (.int .i64 ((pos : Int) + 1))) (fun k => w.heap.size < k ∧ k < (w2.setCell ⟨R, 1, none⟩ (.int .i64 ((pos : Int) + 1))).heap.size) y.of (.slice a1 n1 q1) := by
        rw [setCell_size]
        have h1 : ExsD w2 (fun k => w.heap.size < k ∧ k < w2.heap.size) y.of (.slice a1 n1 q1) := ((up_tree hT).stays fun k hk => K2.out.block k hk.2).mono fun k hk => ⟨hk.1, Nat.lt_of_lt_of_le hk.2 K2.out.size⟩
        exact h1.but hBs fun k hk => ⟨hk.2, by have := hk.1; omega⟩
      have hD' : Rd (w2.setCell ⟨R, 1, none⟩ (.int .i64 ((pos : Int) + 1))) R g cap s ts (pos + 1) d := HD2.out.at' (pos + 1) hlt
      have hZ' := (HZ.out.kept K2.out).but hBs hneR
      have hK : Kept ((w2.setCell ⟨R, 1, none⟩ (.int .i64 ((pos : Int) + 1))).setCells w.heap.size 0 [.int .i64 y.kind, .int .i64 y.n, .string y.name, .slice a1 n1 q1]) ((w2.setCell ⟨R, 1, none⟩ (.int .i64 ((pos : Int) + 1))).setCells w.heap.size 0 [.int .i64 y.kind, .int .i64 y.n, .string y.name, .slice a1 n1 q1]) := Kept.refl _
      refine red_endK Tryz.results172 y true rfl rfl hZ' hK (tree_up hK hTs) ((((But.of (zw_kept w)).then hB).then (But.of K2.out)).then hBs) hD' hRw HR.out.lt rfl rfl ?_
      have := HML.out
      rw [List.length_tail]; omega
end Go.Proofs.YtkobdephobaopaaGreatDoor

namespace Go.Proofs.YtkobdephobaopaaGreatDoor
open Go.RowKit
attribute [local go_sem] run_store_complex

theorem nm_ba (t : List UInt8) : nm ⟨t.toArray⟩ = Px.isNm t := by
  unfold nm Px.isNm kw
  rw [toList_data]
  rfl

set_option maxRecDepth 100000 in
set_option maxHeartbeats 1000000 in
theorem expression_any (d : Nat) (f : Px.P) (hs : Px.Suf f) (H : PM 149 d (Px.sum f)) : PM 136 d (Px.expr f) := by
  intro R g cap s ts a w h o m hp
  have HR : Hid (Rd w R g cap s ts a d) := h
  obtain ⟨o1, m1, hp1⟩ : ∃ o1 m1, Px.sum f (left ts a) = (o1, m1) := ⟨_, _, rfl⟩
  have HC : Hid (Calls Tryz.prog 149 #[.pointer (some ⟨R, 0, none⟩)] (zw w) fun e w' => Red R g cap s ts d (zw w) o1 m1 e w') := H R g cap s ts a _ (h.kept (zw_kept w)) o1 m1 hp1
  have hS : Px.Suf (Px.sum f) := Px.row_suf (Px.row_suf hs)
  have hsuf : m1 <:+ left ts a := by have := hS (left ts a); rw [hp1] at this; exact this
  have HL : Hid (left ts (ts.length - m1.length) = m1) := suf_left hsuf
  have HML : Hid (m1.length ≤ ts.length) := by have := suf_len hsuf; show m1.length ≤ ts.length; omega
  have HH : Hid (PM 149 d (Px.sum f)) := H
  unfold Px.expr at hp
  rw [hp1] at hp
  have HP : Hid _ := hp
  have hRw := h.rlt
  have hfew := h.few
  clear h hp hp1 H hsuf
  go_enter Tryz.func136, Tryz.ntmps136
  go_wp2_with fail
  refine HC.out.mono ?_
  rintro e w1 ⟨x, b, a1, n1, q1, rfl, hx, hb, hT, hB, hD⟩
  have hz := (zw_bx w).but hB (by omega)
  have HZ : Hid (Bx w1 w.heap.size 0 0 ⟨#[]⟩ (.slice none 0 0)) := hz
  have HX : Hid (x = oe o1 ∧ ExsIn w1 (zw w).heap.size w1.heap.size x.of (.slice a1 n1 q1) ∧ But R (zw w) w1 ∧ Rd w1 R g cap s ts (ts.length - m1.length) d) := ⟨hx, hT, hB, hD⟩
  obtain ⟨y0, y1, y2, y3, yf⟩ := hz
  have hw1 : w.heap.size < w1.heap.size := block_lt_of_cell y0
  clear hT hB hD
  cases o1 with
  | none =>
    cases hb
    go_wp2_with fail
    obtain ⟨hx, hT, hB, hD⟩ := HX.out
    have e := HP.out
    simp only [Prod.mk.injEq] at e
    obtain ⟨rfl, rfl⟩ := e
    exact red_endK Tryz.results136 ex0 false rfl rfl HZ.out ((Kept.refl _).al _) (ExsD.nil _ _) ((But.of (zw_kept w)).then hB) hD hRw HR.out.lt rfl rfl rfl
  | some y =>
    cases hb
    cases hx
    have HO : Hid (∀ ok, Px.opAt 1 (Px.hd m1) = ok → ∀ W, Kept w1 W → Calls Tryz.prog 150 #[.pointer (some ⟨R, 0, none⟩), .int .i64 1] W fun e w' => e = .returned (.tuple #[.int .i64 ((ok.getD 0 : Nat) : Int), .bool ok.isSome]) ∧ Kept W w') := fun ok hok W hW => operator_any (HX.out.2.2.2.kept hW) 1 (by omega) ok (by rw [HL.out]; exact hok)
    cases hop : Px.opAt 1 (Px.hd m1) with
    | none =>
      have HOP : Hid (Px.opAt 1 (Px.hd m1) = none) := hop
      clear hop
      go_wp2_with fail
      refine (HO.out _ HOP.out _ ((Kept.refl _).al _)).mono ?_
      rintro e w2 ⟨rfl, k2⟩
      have KA : Hid (Bx w2 w1.heap.size y.kind y.n y.name (.slice a1 n1 q1)) := (Bx.new ..).kept k2
      have K2 : Hid (Kept w1 w2) := ((Kept.refl w1).al _).then k2
      obtain ⟨z0, z1, z2, z3, zf⟩ := HZ.out.kept K2.out
      obtain ⟨c0, c1, c2, c3, cf⟩ := KA.out
      have hw2 : w.heap.size < w2.heap.size := block_lt_of_cell z0
      have hw12 := KA.out.lt
      clear k2 y0 y1 y2 y3 yf
      go_wp2_with fail
      obtain ⟨hx, hT, hB, hD⟩ := HX.out
      have e := HP.out
      simp only [HOP.out, Prod.mk.injEq] at e
      obtain ⟨rfl, rfl⟩ := e
      have hTs : ExsD w2 (fun k => w.heap.size < k ∧ k < w2.heap.size) y.of (.slice a1 n1 q1) := ((up_tree hT).stays fun k hk => K2.out.block k hk.2).mono fun k hk => ⟨hk.1, Nat.lt_of_lt_of_le hk.2 K2.out.size⟩
      have hK : Kept (w2.setCells w.heap.size 0 [.int .i64 y.kind, .int .i64 y.n, .string y.name, .slice a1 n1 q1]) (w2.setCells w.heap.size 0 [.int .i64 y.kind, .int .i64 y.n, .string y.name, .slice a1 n1 q1]) := Kept.refl _
      exact red_endK Tryz.results136 y true rfl rfl (HZ.out.kept K2.out) hK (tree_up hK hTs) (((But.of (zw_kept w)).then hB).then (But.of K2.out)) (hD.kept K2.out) hRw HR.out.lt rfl rfl rfl
    | some k =>
      have HOP : Hid (Px.opAt 1 (Px.hd m1) = some k) := hop
      have hlt : ts.length - m1.length < ts.length := hd_lt ts _ (by rw [HL.out, Px.opAt_hd hop]; decide)
      have HL2 : Hid (left ts (ts.length - m1.length + 1) = m1.tail) := by show left ts (ts.length - m1.length + 1) = m1.tail; rw [← left_tail, HL.out]
      clear hop
      go_wp2_with fail
      refine (HO.out _ HOP.out _ ((Kept.refl _).al _)).mono ?_
      rintro e w2 ⟨rfl, k2⟩
      have KA : Hid (Bx w2 w1.heap.size y.kind y.n y.name (.slice a1 n1 q1)) := (Bx.new ..).kept k2
      have K2 : Hid (Kept w1 w2) := ((Kept.refl w1).al _).then k2
      have HD2 : Hid (Rd w2 R g cap s ts (ts.length - m1.length) d) := HX.out.2.2.2.kept K2.out
      obtain ⟨r0, r1, r2, rz1, rz2, -⟩ := HD2.out
      have hR2 := HD2.out.rlt
      have hneR : w.heap.size ≠ R := by omega
      have hneA : w1.heap.size ≠ R := by omega
      generalize hpos : ts.length - m1.length = pos at *
      clear k2 y0 y1 y2 y3 yf
      go_wp2_with fail
      obtain ⟨o2, m2, hp2⟩ : ∃ o2 m2, Px.sum f (left ts (pos + 1)) = (o2, m2) := ⟨_, _, rfl⟩
      have HP2 : Hid (Px.sum f (left ts (pos + 1)) = (o2, m2)) := hp2
      have hD3 : Rd (w2.setCell ⟨R, 1, none⟩ (.int .i64 ((pos : Int) + 1))) R g cap s ts (pos + 1) d := HD2.out.at' (pos + 1) hlt
      refine (HH.out R g cap s ts (pos + 1) _ hD3 _ _ hp2).mono ?_
      have hB3 : But R w2 (w2.setCell ⟨R, 1, none⟩ (.int .i64 ((pos : Int) + 1))) := (But.refl R w2).set 1 _
      have hs3 : (w2.setCell ⟨R, 1, none⟩ (.int .i64 ((pos : Int) + 1))).heap.size = w2.heap.size := by simp
      generalize (w2.setCell ⟨R, 1, none⟩ (.int .i64 ((pos : Int) + 1))) = W3 at *
      rintro e w4 ⟨x2, b2, a2, n2, q2, rfl, hx2, hb2, hT2, hB4, hRd4⟩
      clear hp2 r0 r1 r2 rz1 rz2
      have HT2 : Hid (ExsIn w4 w2.heap.size w4.heap.size x2.of (.slice a2 n2 q2)) := by rw [hs3] at hT2; exact hT2
      have HB4 : Hid (But R w2 w4) := hB3.then hB4
      have HD4 : Hid (Rd w4 R g cap s ts (ts.length - m2.length) d) := hRd4
      have HZ4 : Hid (Bx w4 w.heap.size 0 0 ⟨#[]⟩ (.slice none 0 0)) := (HZ.out.kept K2.out).but HB4.out hneR
      have HE4 : Hid (Bx w4 w1.heap.size y.kind y.n y.name (.slice a1 n1 q1)) := KA.out.but HB4.out hneA
      obtain ⟨c0, c1, c2, c3, cf⟩ := HE4.out
      obtain ⟨v0, v1, v2, v3, vf⟩ := HZ4.out
      have l4 := HE4.out.lt
      have l5 := HZ4.out.lt
      clear hT2 hB4 hRd4 hB3 hs3 hD3
      cases o2 with
      | none =>
        cases hb2
        go_wp2_with fail
        obtain ⟨hx, hT, hB, hD⟩ := HX.out
        have e := HP.out
        rw [HL2.out] at HP2
        simp only [HOP.out, HP2.out, Prod.mk.injEq] at e
        obtain ⟨rfl, rfl⟩ := e
        exact red_endK Tryz.results136 ex0 false rfl rfl HZ4.out ((Kept.refl _).al _) (ExsD.nil _ _) ((((But.of (zw_kept w)).then hB).then (But.of K2.out)).then HB4.out) HD4.out hRw HR.out.lt rfl rfl rfl
      | some z =>
        cases hb2
        cases hx2
        go_wp2_with fail
        obtain ⟨hx, hT, hB, hD⟩ := HX.out
        have e := HP.out
        rw [HL2.out] at HP2
        simp only [HOP.out, HP2.out, Prod.mk.injEq] at e
        obtain ⟨rfl, rfl⟩ := e
        have hw24 := HB4.out.size
        have hw12 := K2.out.size
        have hK : Kept (w4.setCells w.heap.size 0 [.int .i64 (k : Int), .int .i64 0, .string ⟨#[]⟩, .slice (some ⟨w4.heap.size + 1, 0, none⟩) 2 2]) (((w4.setCells w.heap.size 0 [.int .i64 (k : Int), .int .i64 0, .string ⟨#[]⟩, .slice (some ⟨w4.heap.size + 1, 0, none⟩) 2 2]).alloc (.cells #[.int .i64 z.kind, .int .i64 z.n, .string z.name, .slice a2 n2 q2] 44)).alloc (.cells #[.int .i64 y.kind, .int .i64 y.n, .string y.name, .slice a1 n1 q1, .int .i64 z.kind, .int .i64 z.n, .string z.name, .slice a2 n2 q2] 44)) := ((Kept.refl _).al _).al _
        have hY : ExsD w4 (fun k => w.heap.size < k ∧ k < w4.heap.size) y.of (.slice a1 n1 q1) := by
          have h1 : ExsD w2 (fun k => w.heap.size < k ∧ k < w2.heap.size) y.of (.slice a1 n1 q1) := ((up_tree hT).stays fun k hk => K2.out.block k hk.2).mono fun k hk => ⟨hk.1, Nat.lt_of_lt_of_le hk.2 K2.out.size⟩
          exact (h1.but HB4.out fun k hk => ⟨hk.2, by have := hk.1; omega⟩).mono fun k hk => ⟨hk.1, by have := hk.2; omega⟩
        have hZZ : ExsD w4 (fun k => w.heap.size < k ∧ k < w4.heap.size) z.of (.slice a2 n2 q2) := HT2.out.mono fun k hk => ⟨by have := hk.1; omega, hk.2⟩
        refine red_endK Tryz.results136 (Px.binE k y z) true rfl rfl HZ4.out hK ?_ ((((But.of (zw_kept w)).then hB).then (But.of K2.out)).then HB4.out) HD4.out hRw HR.out.lt rfl rfl rfl
        exact ExsD.two (v := .slice a1 n1 q1) (u := .slice a2 n2 q2) ⟨by omega, by simp⟩ (heap_at (by simp) _) (tree_up hK hY) (tree_up hK hZZ)

/-- What factor does with a token that it takes as it is, with new blocks behind. -/
theorem name_at (t : List UInt8) (b : Bool) (h : Px.isNm t = b) (w : World) : Calls Tryz.prog 109 #[.string ⟨t.toArray⟩] w fun e w' => e = .returned (.bool b) ∧ w' = w := isName_any _ b (by rw [nm_ba]; exact h) w

set_option maxRecDepth 100000 in
set_option maxHeartbeats 1000000 in
theorem factor_of (k d : Nat) (hkd : d + k = 8) (H : ∀ j, k = j + 1 → PM 171 (d + 1) (Px.minus (Px.fac j)) ∧ PM 172 (d + 1) (Px.paren (Px.fac j))) : PM 167 d (Px.fac k) := by
  intro R g cap s ts a w h o m hp
  have HR : Hid (Rd w R g cap s ts a d) := h
  have HH : Hid _ := H
  obtain ⟨kd, tx, n, ht⟩ : ∃ kd tx n, Px.hd (left ts a) = (kd, tx, n) := ⟨_, _, _, rfl⟩
  have HT : Hid (Calls Tryz.prog 168 #[.pointer (some ⟨R, 0, none⟩)] (zw w) fun e w' => ∃ x y, e = .returned (.agg #[.int .i64 (kd : Int), .string ⟨tx.toArray⟩, .int .i64 (n : Int), .complex .f64 x y]) ∧ Kept (zw w) w') := token_any (h.kept (zw_kept w)) ht
  have HTT : Hid (Px.hd (left ts a) = (kd, tx, n)) := ht
  have HP : Hid (Px.fac k (left ts a) = (o, m)) := hp
  have hRw := h.rlt
  have hfew := h.few
  have HAL : Hid (kd ≠ 4 → a < ts.length) := fun hk4 => hd_lt ts a (by rw [ht]; exact hk4)
  clear h H hp ht
  by_cases h2 : kd = 2
  · subst h2
    have hal := HAL.out (by decide)
    have HE : Hid (o = some (Px.numE n) ∧ m = left ts (a + 1)) := by
      have := HP.out
      have e1 : (Px.hd (left ts a)).1 = 2 := by rw [HTT.out]
      have e2 : (Px.hd (left ts a)).2.2 = n := by rw [HTT.out]
      cases k with
      | zero => rw [Px.fac_zero, if_pos e1, e2, left_tail, Prod.mk.injEq] at this; exact ⟨this.1.symm, this.2.symm⟩
      | succ k => rw [Px.fac_succ, if_pos e1, e2, left_tail, Prod.mk.injEq] at this; exact ⟨this.1.symm, this.2.symm⟩
    go_enter Tryz.func167, Tryz.ntmps167
    go_wp2_with fail
    refine HT.out.mono ?_
    rintro e w1 ⟨X, Y, rfl, k1⟩
    have K1 : Hid (Kept (zw w) w1) := k1
    have HD1 : Hid (Rd w1 R g cap s ts a d) := (HR.out.kept (zw_kept w)).kept k1
    have HZ : Hid (Bx w1 w.heap.size 0 0 ⟨#[]⟩ (.slice none 0 0)) := (zw_bx w).kept k1
    obtain ⟨r0, r1, r2, rz1, rz2, -⟩ := HD1.out
    obtain ⟨z0, z1, z2, z3, zf⟩ := HZ.out
    have hR1 := HD1.out.rlt
    have hw1 := HZ.out.lt
    have hneR : w.heap.size ≠ R := by omega
    clear k1
    go_wp2_with fail
    obtain ⟨rfl, rfl⟩ := HE.out
    have hBs := (But.refl R w1).set 1 (.int .i64 ((a : Int) + 1))
    have hD' : Rd (w1.setCell ⟨R, 1, none⟩ (.int .i64 ((a : Int) + 1))) R g cap s ts (a + 1) d := HD1.out.at' (a + 1) hal
    have hZ' := HZ.out.but hBs hneR
    refine red_endK Tryz.results167 (Px.numE n) true rfl rfl hZ' ((Kept.refl _).al _) (ExsD.nil _ _) (((But.of (zw_kept w)).then (But.of K1.out)).then hBs) hD' hRw HR.out.lt rfl rfl ?_
    rw [left_len]; omega
  by_cases hc : kd = 1 ∧ Px.isNm tx = true
  · obtain ⟨h1, hn⟩ := hc
    subst h1
    have hal := HAL.out (by decide)
    have HE : Hid (o = some (Px.nameE tx) ∧ m = left ts (a + 1)) := by
      have := HP.out
      have e0 : ¬ (Px.hd (left ts a)).1 = 2 := by rw [HTT.out]; show ¬ (1 = 2); decide
      have e1 : (Px.hd (left ts a)).1 = 1 ∧ Px.isNm (Px.hd (left ts a)).2.1 = true := by rw [HTT.out]; exact ⟨rfl, hn⟩
      have e2 : (Px.hd (left ts a)).2.1 = tx := by rw [HTT.out]
      cases k with
      | zero => rw [Px.fac_zero, if_neg e0, if_pos e1, e2, left_tail, Prod.mk.injEq] at this; exact ⟨this.1.symm, this.2.symm⟩
      | succ k => rw [Px.fac_succ, if_neg e0, if_pos e1, e2, left_tail, Prod.mk.injEq] at this; exact ⟨this.1.symm, this.2.symm⟩
    have NM : Hid (∀ W, Calls Tryz.prog 109 #[.string ⟨tx.toArray⟩] W fun e w' => e = .returned (.bool true) ∧ w' = W) := fun W => name_at tx true hn W
    go_enter Tryz.func167, Tryz.ntmps167
    go_wp2_with fail
    refine HT.out.mono ?_
    rintro e w1 ⟨X, Y, rfl, k1⟩
    have K1 : Hid (Kept (zw w) w1) := k1
    have HD1 : Hid (Rd w1 R g cap s ts a d) := (HR.out.kept (zw_kept w)).kept k1
    have HZ : Hid (Bx w1 w.heap.size 0 0 ⟨#[]⟩ (.slice none 0 0)) := (zw_bx w).kept k1
    obtain ⟨r0, r1, r2, rz1, rz2, -⟩ := HD1.out
    obtain ⟨z0, z1, z2, z3, zf⟩ := HZ.out
    have hR1 := HD1.out.rlt
    have hw1 := HZ.out.lt
    have hneR : w.heap.size ≠ R := by omega
    clear k1
    go_wp2_with fail
    refine (NM.out _).mono ?_
    rintro e w2 ⟨rfl, hw2⟩
    obtain rfl := hw2
    go_wp2_with fail
    obtain ⟨rfl, rfl⟩ := HE.out
    have hBs := (But.refl R w1).set 1 (.int .i64 ((a : Int) + 1))
    have hD' : Rd (w1.setCell ⟨R, 1, none⟩ (.int .i64 ((a : Int) + 1))) R g cap s ts (a + 1) d := HD1.out.at' (a + 1) hal
    have hZ' := HZ.out.but hBs hneR
    refine red_endK Tryz.results167 (Px.nameE tx) true rfl rfl hZ' ((Kept.refl _).al _) (ExsD.nil _ _) (((But.of (zw_kept w)).then (But.of K1.out)).then hBs) hD' hRw HR.out.lt rfl rfl ?_
    rw [left_len]; omega
  by_cases h1 : kd = 1
  · have hnf : Px.isNm tx = false := by
      cases hn : Px.isNm tx with
      | true => exact absurd ⟨h1, hn⟩ hc
      | false => rfl
    have HNF : Hid (∀ j, k = j + 1 → Px.fac k (left ts a) = if Px.isSg [45] (kd, tx, n) then Px.minus (Px.fac j) (left ts a).tail else if Px.isSg [40] (kd, tx, n) then Px.paren (Px.fac j) (left ts a).tail else (none, left ts a)) := by
      intro j hj
      subst hj
      rw [Px.fac_succ, HTT.out, if_neg h2, if_neg hc]
    have HN0 : Hid (k = 0 → Px.fac k (left ts a) = (none, left ts a)) := by
      intro hj
      subst hj
      rw [Px.fac_zero, HTT.out, if_neg h2, if_neg hc]
    have g2 : ((kd : Int) == 2) = false := ne_int (by omega)
    have NM : Hid (∀ W, Calls Tryz.prog 109 #[.string ⟨tx.toArray⟩] W fun e w' => e = .returned (.bool false) ∧ w' = W) := fun W => name_at tx false hnf W
    subst h1
    cases k with
    | zero =>
      have hd8 : ((d : Int) == 8) = true := by rw [show d = 8 by omega]; rfl
      have HE : Hid (none = o ∧ left ts a = m) := by
        have := HN0.out rfl
        rw [HP.out, Prod.mk.injEq] at this
        exact ⟨this.1.symm, this.2.symm⟩
      go_enter Tryz.func167, Tryz.ntmps167
      go_wp2_with fail
      refine HT.out.mono ?_
      rintro e w1 ⟨X, Y, rfl, k1⟩
      have K1 : Hid (Kept (zw w) w1) := k1
      have HD1 : Hid (Rd w1 R g cap s ts a d) := (HR.out.kept (zw_kept w)).kept k1
      have HZ : Hid (Bx w1 w.heap.size 0 0 ⟨#[]⟩ (.slice none 0 0)) := (zw_bx w).kept k1
      obtain ⟨r0, r1, r2, rz1, rz2, -⟩ := HD1.out
      obtain ⟨z0, z1, z2, z3, zf⟩ := HZ.out
      have hR1 := HD1.out.rlt
      have hw1 := HZ.out.lt
      have hneR : w.heap.size ≠ R := by omega
      clear k1
      go_wp2_with fail
      refine (NM.out _).mono ?_
      rintro e w2 ⟨rfl, hw2⟩
      obtain rfl := hw2
      go_wp2_with fail
      obtain ⟨rfl, rfl⟩ := HE.out
      exact red_endK Tryz.results167 ex0 false rfl rfl HZ.out ((Kept.refl _).al _) (ExsD.nil _ _) ((But.of (zw_kept w)).then (But.of K1.out)) HD1.out hRw HR.out.lt rfl rfl (by rw [left_len]; have := HD1.out.le; omega)
    | succ j =>
      have hd8 : ((d : Int) == 8) = false := ne_int (by omega)
      have HEE : Hid _ := HNF.out j rfl
      have I45 : Hid (∀ W b, Px.isSg [45] (1, tx, n) = b → Rd W R g cap s ts a d → Calls Tryz.prog 161 #[.pointer (some ⟨R, 0, none⟩), .string ⟨#[45]⟩] W fun e w' => e = .returned (.bool b) ∧ Kept W w') := fun W b hb hW => isSign_any hW ⟨#[45]⟩ b (by rw [HTT.out]; exact hb)
      have I40 : Hid (∀ W b, Px.isSg [40] (1, tx, n) = b → Rd W R g cap s ts a d → Calls Tryz.prog 161 #[.pointer (some ⟨R, 0, none⟩), .string ⟨#[40]⟩] W fun e w' => e = .returned (.bool b) ∧ Kept W w') := fun W b hb hW => isSign_any hW ⟨#[40]⟩ b (by rw [HTT.out]; exact hb)
      go_enter Tryz.func167, Tryz.ntmps167
      go_wp2_with fail
      refine HT.out.mono ?_
      rintro e w1 ⟨X, Y, rfl, k1⟩
      have K1 : Hid (Kept (zw w) w1) := k1
      have HD1 : Hid (Rd w1 R g cap s ts a d) := (HR.out.kept (zw_kept w)).kept k1
      have HZ : Hid (Bx w1 w.heap.size 0 0 ⟨#[]⟩ (.slice none 0 0)) := (zw_bx w).kept k1
      obtain ⟨r0, r1, r2, rz1, rz2, -⟩ := HD1.out
      obtain ⟨z0, z1, z2, z3, zf⟩ := HZ.out
      have hR1 := HD1.out.rlt
      have hw1 := HZ.out.lt
      have hneR : w.heap.size ≠ R := by omega
      clear k1
      go_wp2_with fail
      refine (NM.out _).mono ?_
      rintro e w2 ⟨rfl, hw2⟩
      obtain rfl := hw2
      go_wp2_with fail
      cases h45 : Px.isSg [45] (1, tx, n) with
      | true =>
        have hal := HAL.out (by decide)
        refine (I45.out _ true h45 (HD1.out.kept ((Kept.refl _).al _))).mono ?_
        rintro e w3 ⟨rfl, k3⟩
        have K3 : Hid (Kept w1 w3) := ((Kept.refl w1).al _).then k3
        have HE : Hid (Px.minus (Px.fac j) (left ts a).tail = (o, m)) := by
          have := HEE.out; rw [HP.out, h45, if_pos rfl] at this; exact this.symm
        clear k3
        go_wp2_with fail
        refine (inner_any 171 enter64 d (by omega) (Px.minus (Px.fac j)) (HH.out j rfl).1 (HD1.out.kept K3.out) hal o m (by rw [← left_tail]; exact HE.out)).mono ?_
        rintro e w5 ⟨x5, b5, a5, n5, q5, rfl, hx5, hb5, hT5, hB5, hD5⟩
        have HZ5 : Hid (Bx w5 w.heap.size 0 0 ⟨#[]⟩ (.slice none 0 0)) := (HZ.out.kept K3.out).but hB5 hneR
        have HX5 : Hid (x5 = oe o ∧ b5 = o.isSome ∧ ExsIn w5 w3.heap.size w5.heap.size x5.of (.slice a5 n5 q5) ∧ But R w3 w5 ∧ Rd w5 R g cap s ts (ts.length - m.length) d) := ⟨hx5, hb5, hT5, hB5, hD5⟩
        have hw3 := (HZ.out.kept K3.out).lt
        obtain ⟨v0, v1, v2, v3, vf⟩ := HZ5.out
        have hw5 := HZ5.out.lt
        clear hx5 hb5 hT5 hB5 hD5 z0 z1 z2 z3 zf
        go_wp2_with fail
        obtain ⟨hx5, hb5, hT5, hB5, hD5⟩ := HX5.out
        have hK : Kept (w5.setCells w.heap.size 0 [.int .i64 x5.kind, .int .i64 x5.n, .string x5.name, .slice a5 n5 q5]) (w5.setCells w.heap.size 0 [.int .i64 x5.kind, .int .i64 x5.n, .string x5.name, .slice a5 n5 q5]) := Kept.refl _
        exact red_endK Tryz.results167 x5 b5 rfl rfl HZ5.out hK (tree_up hK (hT5.mono fun k hk => ⟨by have := hk.1; omega, hk.2⟩)) ((((But.of (zw_kept w)).then (But.of K1.out)).then (But.of K3.out)).then hB5) hD5 hRw HR.out.lt hx5 hb5 rfl
      | false =>
        refine (I45.out _ false h45 (HD1.out.kept ((Kept.refl _).al _))).mono ?_
        rintro e w3 ⟨rfl, k3⟩
        have K3 : Hid (Kept w1 w3) := ((Kept.refl w1).al _).then k3
        clear k3
        go_wp2_with fail
        cases h40 : Px.isSg [40] (1, tx, n) with
        | true =>
          have hal := HAL.out (by decide)
          refine (I40.out _ true h40 (HD1.out.kept K3.out)).mono ?_
          rintro e w4 ⟨rfl, k4⟩
          have K4 : Hid (Kept w1 w4) := K3.out.then k4
          have HE : Hid (Px.paren (Px.fac j) (left ts a).tail = (o, m)) := by
            have := HEE.out; rw [HP.out, h45, h40, if_neg (by decide), if_pos rfl] at this; exact this.symm
          clear k4
          go_wp2_with fail
          refine (inner_any 172 enter65 d (by omega) (Px.paren (Px.fac j)) (HH.out j rfl).2 (HD1.out.kept K4.out) hal o m (by rw [← left_tail]; exact HE.out)).mono ?_
          rintro e w5 ⟨x5, b5, a5, n5, q5, rfl, hx5, hb5, hT5, hB5, hD5⟩
          have HZ5 : Hid (Bx w5 w.heap.size 0 0 ⟨#[]⟩ (.slice none 0 0)) := (HZ.out.kept K4.out).but hB5 hneR
          have HX5 : Hid (x5 = oe o ∧ b5 = o.isSome ∧ ExsIn w5 w4.heap.size w5.heap.size x5.of (.slice a5 n5 q5) ∧ But R w4 w5 ∧ Rd w5 R g cap s ts (ts.length - m.length) d) := ⟨hx5, hb5, hT5, hB5, hD5⟩
          have hw4 := (HZ.out.kept K4.out).lt
          obtain ⟨v0, v1, v2, v3, vf⟩ := HZ5.out
          have hw5 := HZ5.out.lt
          clear hx5 hb5 hT5 hB5 hD5 z0 z1 z2 z3 zf
          go_wp2_with fail
          obtain ⟨hx5, hb5, hT5, hB5, hD5⟩ := HX5.out
          have hK : Kept (w5.setCells w.heap.size 0 [.int .i64 x5.kind, .int .i64 x5.n, .string x5.name, .slice a5 n5 q5]) (w5.setCells w.heap.size 0 [.int .i64 x5.kind, .int .i64 x5.n, .string x5.name, .slice a5 n5 q5]) := Kept.refl _
          exact red_endK Tryz.results167 x5 b5 rfl rfl HZ5.out hK (tree_up hK (hT5.mono fun k hk => ⟨by have := hk.1; omega, hk.2⟩)) ((((But.of (zw_kept w)).then (But.of K1.out)).then (But.of K4.out)).then hB5) hD5 hRw HR.out.lt hx5 hb5 rfl
        | false =>
          refine (I40.out _ false h40 (HD1.out.kept K3.out)).mono ?_
          rintro e w4 ⟨rfl, k4⟩
          have K4 : Hid (Kept w1 w4) := K3.out.then k4
          have HE : Hid (none = o ∧ left ts a = m) := by
            have := HEE.out; rw [HP.out, h45, h40, if_neg (by decide), if_neg (by decide), Prod.mk.injEq] at this; exact ⟨this.1.symm, this.2.symm⟩
          have HZ4 : Hid (Bx w4 w.heap.size 0 0 ⟨#[]⟩ (.slice none 0 0)) := HZ.out.kept K4.out
          obtain ⟨v0, v1, v2, v3, vf⟩ := HZ4.out
          have hw4 := HZ4.out.lt
          clear k4 z0 z1 z2 z3 zf
          go_wp2_with fail
          obtain ⟨rfl, rfl⟩ := HE.out
          exact red_endK Tryz.results167 ex0 false rfl rfl HZ4.out (Kept.refl _) (ExsD.nil _ _) (((But.of (zw_kept w)).then (But.of K1.out)).then (But.of K4.out)) (HD1.out.kept K4.out) hRw HR.out.lt rfl rfl (by rw [left_len]; have := HD1.out.le; omega)
  · skip
    have HNF : Hid (∀ j, k = j + 1 → Px.fac k (left ts a) = if Px.isSg [45] (kd, tx, n) then Px.minus (Px.fac j) (left ts a).tail else if Px.isSg [40] (kd, tx, n) then Px.paren (Px.fac j) (left ts a).tail else (none, left ts a)) := by
      intro j hj
      subst hj
      rw [Px.fac_succ, HTT.out, if_neg h2, if_neg hc]
    have HN0 : Hid (k = 0 → Px.fac k (left ts a) = (none, left ts a)) := by
      intro hj
      subst hj
      rw [Px.fac_zero, HTT.out, if_neg h2, if_neg hc]
    have g2 : ((kd : Int) == 2) = false := ne_int (by omega)
    have g1 : ((kd : Int) == 1) = false := ne_int (by omega)
    cases k with
    | zero =>
      have hd8 : ((d : Int) == 8) = true := by rw [show d = 8 by omega]; rfl
      have HE : Hid (none = o ∧ left ts a = m) := by
        have := HN0.out rfl
        rw [HP.out, Prod.mk.injEq] at this
        exact ⟨this.1.symm, this.2.symm⟩
      go_enter Tryz.func167, Tryz.ntmps167
      go_wp2_with fail
      refine HT.out.mono ?_
      rintro e w1 ⟨X, Y, rfl, k1⟩
      have K1 : Hid (Kept (zw w) w1) := k1
      have HD1 : Hid (Rd w1 R g cap s ts a d) := (HR.out.kept (zw_kept w)).kept k1
      have HZ : Hid (Bx w1 w.heap.size 0 0 ⟨#[]⟩ (.slice none 0 0)) := (zw_bx w).kept k1
      obtain ⟨r0, r1, r2, rz1, rz2, -⟩ := HD1.out
      obtain ⟨z0, z1, z2, z3, zf⟩ := HZ.out
      have hR1 := HD1.out.rlt
      have hw1 := HZ.out.lt
      have hneR : w.heap.size ≠ R := by omega
      clear k1
      go_wp2_with fail
      obtain ⟨rfl, rfl⟩ := HE.out
      exact red_endK Tryz.results167 ex0 false rfl rfl HZ.out ((Kept.refl _).al _) (ExsD.nil _ _) ((But.of (zw_kept w)).then (But.of K1.out)) HD1.out hRw HR.out.lt rfl rfl (by rw [left_len]; have := HD1.out.le; omega)
    | succ j =>
      have hd8 : ((d : Int) == 8) = false := ne_int (by omega)
      have HEE : Hid _ := HNF.out j rfl
      have I45 : Hid (∀ W b, Px.isSg [45] (kd, tx, n) = b → Rd W R g cap s ts a d → Calls Tryz.prog 161 #[.pointer (some ⟨R, 0, none⟩), .string ⟨#[45]⟩] W fun e w' => e = .returned (.bool b) ∧ Kept W w') := fun W b hb hW => isSign_any hW ⟨#[45]⟩ b (by rw [HTT.out]; exact hb)
      have I40 : Hid (∀ W b, Px.isSg [40] (kd, tx, n) = b → Rd W R g cap s ts a d → Calls Tryz.prog 161 #[.pointer (some ⟨R, 0, none⟩), .string ⟨#[40]⟩] W fun e w' => e = .returned (.bool b) ∧ Kept W w') := fun W b hb hW => isSign_any hW ⟨#[40]⟩ b (by rw [HTT.out]; exact hb)
      go_enter Tryz.func167, Tryz.ntmps167
      go_wp2_with fail
      refine HT.out.mono ?_
      rintro e w1 ⟨X, Y, rfl, k1⟩
      have K1 : Hid (Kept (zw w) w1) := k1
      have HD1 : Hid (Rd w1 R g cap s ts a d) := (HR.out.kept (zw_kept w)).kept k1
      have HZ : Hid (Bx w1 w.heap.size 0 0 ⟨#[]⟩ (.slice none 0 0)) := (zw_bx w).kept k1
      obtain ⟨r0, r1, r2, rz1, rz2, -⟩ := HD1.out
      obtain ⟨z0, z1, z2, z3, zf⟩ := HZ.out
      have hR1 := HD1.out.rlt
      have hw1 := HZ.out.lt
      have hneR : w.heap.size ≠ R := by omega
      clear k1
      go_wp2_with fail
      cases h45 : Px.isSg [45] (kd, tx, n) with
      | true =>
        have hal := HAL.out (by intro c; rw [c] at h45; simp [Px.isSg] at h45)
        refine (I45.out _ true h45 (HD1.out.kept ((Kept.refl _).al _))).mono ?_
        rintro e w3 ⟨rfl, k3⟩
        have K3 : Hid (Kept w1 w3) := ((Kept.refl w1).al _).then k3
        have HE : Hid (Px.minus (Px.fac j) (left ts a).tail = (o, m)) := by
          have := HEE.out; rw [HP.out, h45, if_pos rfl] at this; exact this.symm
        clear k3
        go_wp2_with fail
        refine (inner_any 171 enter64 d (by omega) (Px.minus (Px.fac j)) (HH.out j rfl).1 (HD1.out.kept K3.out) hal o m (by rw [← left_tail]; exact HE.out)).mono ?_
        rintro e w5 ⟨x5, b5, a5, n5, q5, rfl, hx5, hb5, hT5, hB5, hD5⟩
        have HZ5 : Hid (Bx w5 w.heap.size 0 0 ⟨#[]⟩ (.slice none 0 0)) := (HZ.out.kept K3.out).but hB5 hneR
        have HX5 : Hid (x5 = oe o ∧ b5 = o.isSome ∧ ExsIn w5 w3.heap.size w5.heap.size x5.of (.slice a5 n5 q5) ∧ But R w3 w5 ∧ Rd w5 R g cap s ts (ts.length - m.length) d) := ⟨hx5, hb5, hT5, hB5, hD5⟩
        have hw3 := (HZ.out.kept K3.out).lt
        obtain ⟨v0, v1, v2, v3, vf⟩ := HZ5.out
        have hw5 := HZ5.out.lt
        clear hx5 hb5 hT5 hB5 hD5 z0 z1 z2 z3 zf
        go_wp2_with fail
        obtain ⟨hx5, hb5, hT5, hB5, hD5⟩ := HX5.out
        have hK : Kept (w5.setCells w.heap.size 0 [.int .i64 x5.kind, .int .i64 x5.n, .string x5.name, .slice a5 n5 q5]) (w5.setCells w.heap.size 0 [.int .i64 x5.kind, .int .i64 x5.n, .string x5.name, .slice a5 n5 q5]) := Kept.refl _
        exact red_endK Tryz.results167 x5 b5 rfl rfl HZ5.out hK (tree_up hK (hT5.mono fun k hk => ⟨by have := hk.1; omega, hk.2⟩)) ((((But.of (zw_kept w)).then (But.of K1.out)).then (But.of K3.out)).then hB5) hD5 hRw HR.out.lt hx5 hb5 rfl
      | false =>
        refine (I45.out _ false h45 (HD1.out.kept ((Kept.refl _).al _))).mono ?_
        rintro e w3 ⟨rfl, k3⟩
        have K3 : Hid (Kept w1 w3) := ((Kept.refl w1).al _).then k3
        clear k3
        go_wp2_with fail
        cases h40 : Px.isSg [40] (kd, tx, n) with
        | true =>
          have hal := HAL.out (by intro c; rw [c] at h40; simp [Px.isSg] at h40)
          refine (I40.out _ true h40 (HD1.out.kept K3.out)).mono ?_
          rintro e w4 ⟨rfl, k4⟩
          have K4 : Hid (Kept w1 w4) := K3.out.then k4
          have HE : Hid (Px.paren (Px.fac j) (left ts a).tail = (o, m)) := by
            have := HEE.out; rw [HP.out, h45, h40, if_neg (by decide), if_pos rfl] at this; exact this.symm
          clear k4
          go_wp2_with fail
          refine (inner_any 172 enter65 d (by omega) (Px.paren (Px.fac j)) (HH.out j rfl).2 (HD1.out.kept K4.out) hal o m (by rw [← left_tail]; exact HE.out)).mono ?_
          rintro e w5 ⟨x5, b5, a5, n5, q5, rfl, hx5, hb5, hT5, hB5, hD5⟩
          have HZ5 : Hid (Bx w5 w.heap.size 0 0 ⟨#[]⟩ (.slice none 0 0)) := (HZ.out.kept K4.out).but hB5 hneR
          have HX5 : Hid (x5 = oe o ∧ b5 = o.isSome ∧ ExsIn w5 w4.heap.size w5.heap.size x5.of (.slice a5 n5 q5) ∧ But R w4 w5 ∧ Rd w5 R g cap s ts (ts.length - m.length) d) := ⟨hx5, hb5, hT5, hB5, hD5⟩
          have hw4 := (HZ.out.kept K4.out).lt
          obtain ⟨v0, v1, v2, v3, vf⟩ := HZ5.out
          have hw5 := HZ5.out.lt
          clear hx5 hb5 hT5 hB5 hD5 z0 z1 z2 z3 zf
          go_wp2_with fail
          obtain ⟨hx5, hb5, hT5, hB5, hD5⟩ := HX5.out
          have hK : Kept (w5.setCells w.heap.size 0 [.int .i64 x5.kind, .int .i64 x5.n, .string x5.name, .slice a5 n5 q5]) (w5.setCells w.heap.size 0 [.int .i64 x5.kind, .int .i64 x5.n, .string x5.name, .slice a5 n5 q5]) := Kept.refl _
          exact red_endK Tryz.results167 x5 b5 rfl rfl HZ5.out hK (tree_up hK (hT5.mono fun k hk => ⟨by have := hk.1; omega, hk.2⟩)) ((((But.of (zw_kept w)).then (But.of K1.out)).then (But.of K4.out)).then hB5) hD5 hRw HR.out.lt hx5 hb5 rfl
        | false =>
          refine (I40.out _ false h40 (HD1.out.kept K3.out)).mono ?_
          rintro e w4 ⟨rfl, k4⟩
          have K4 : Hid (Kept w1 w4) := K3.out.then k4
          have HE : Hid (none = o ∧ left ts a = m) := by
            have := HEE.out; rw [HP.out, h45, h40, if_neg (by decide), if_neg (by decide), Prod.mk.injEq] at this; exact ⟨this.1.symm, this.2.symm⟩
          have HZ4 : Hid (Bx w4 w.heap.size 0 0 ⟨#[]⟩ (.slice none 0 0)) := HZ.out.kept K4.out
          obtain ⟨v0, v1, v2, v3, vf⟩ := HZ4.out
          have hw4 := HZ4.out.lt
          clear k4 z0 z1 z2 z3 zf
          go_wp2_with fail
          obtain ⟨rfl, rfl⟩ := HE.out
          exact red_endK Tryz.results167 ex0 false rfl rfl HZ4.out (Kept.refl _) (ExsD.nil _ _) (((But.of (zw_kept w)).then (But.of K1.out)).then (But.of K4.out)) (HD1.out.kept K4.out) hRw HR.out.lt rfl rfl (by rw [left_len]; have := HD1.out.le; omega)

/-- What each method reads, however deep it is. -/
theorem methods (k d : Nat) (hkd : d + k = 8) : PM 167 d (Px.fac k) ∧ PM 136 d (Px.expr (Px.fac k)) := by
  induction k generalizing d with
  | zero =>
    have h := factor_of 0 d hkd (fun j hj => by omega)
    exact ⟨h, expression_any d _ (Px.fac_suf 0) (sum_any d _ (Px.fac_suf 0) h)⟩
  | succ k ih =>
    obtain ⟨h1, h2⟩ := ih (d + 1) (by omega)
    have h := factor_of (k + 1) d hkd (fun j hj => by
      obtain rfl : k = j := by omega
      exact ⟨minus_any (d + 1) _ h1, paren_any (d + 1) _ (Px.fac_suf k) h2⟩)
    exact ⟨h, expression_any d _ (Px.fac_suf (k + 1)) (sum_any d _ (Px.fac_suf (k + 1)) h)⟩
end Go.Proofs.YtkobdephobaopaaGreatDoor

namespace Go.Proofs.YtkobdephobaopaaGreatDoor
open Go.RowKit
attribute [local go_sem] run_store_complex

theorem results_cell_tmp2 {fn : Func} {p u v : Tmp} {ty : TypeId} (h : fn.results = #[.cell p ty, .tmp u, .tmp v]) (tmps : Array Value) (P : Program) (w : World) :
    (results fn tmps).run P w =
      ((asAddr (tmps.getD p undef)).run P w).andThen fun a w₁ => ((loadVar ty a).run P w₁).andThen fun x w₂ => .ok (.tuple #[x, tmps.getD u undef, tmps.getD v undef]) w₂ := by
  simp only [results, h]
  simp [Sem.run_bind, Result.andThen]
theorem ret_read {fn : Func} {p u v : Tmp} (h : fn.results = #[.cell p 44, .tmp u, .tmp v]) (tmps : Array Value) {w : World} {B : Nat} {k n : Int} {s : ByteArray} {x y z : Value} (hp : tmps.getD p undef = .pointer (some ⟨B, 0, none⟩)) (hu : tmps.getD u undef = y) (hv : tmps.getD v undef = z) (hB : Bx w B k n s x) :
    (results fn tmps).run Tryz.prog w = .ok (.tuple #[.agg #[.int .i64 k, .int .i64 n, .string s, x], y, z]) w := by
  rw [results_cell_tmp2 h, hp, hu, hv]
  have := run_loadVar_mid (P := Tryz.prog) w B 0 44 _ _ hB.range Tryz.underlying44 rfl esizeEx
  simp [asAddr, Result.andThen, this]

/-- What Read leaves. -/
def Got (w : World) (ts : List Lx.Tk) (o : Option Ex) (m : List Lx.Core) (e : Ending) (w' : World) : Prop :=
  ∃ (x : Ex) (b : Bool) (p : Nat) (a : Option Addr) (n q : Nat), e = .returned (.tuple #[.agg #[.int .i64 x.kind, .int .i64 x.n, .string x.name, .slice a n q], .int .i64 (p : Int), .bool b]) ∧ x = oe o ∧ b = o.isSome ∧ p = ts.length - m.length ∧ ExsIn w' w.heap.size w'.heap.size x.of (.slice a n q) ∧ Kept w w'

set_option maxRecDepth 100000 in
set_option maxHeartbeats 1000000 in
theorem read_from {g cap : Nat} {s : ByteArray} {ts : List Lx.Tk} {w : World} (hr : Row s ts g w) (hg : g < w.heap.size) {a : Nat} (h0 : a < ts.length) (hf : ts.length ≤ 6001) (o : Option Ex) (m : List Lx.Core) (hp : Px.expr (Px.fac 8) (left ts a) = (o, m)) :
    Calls Tryz.prog 121 #[.slice (some ⟨g, 0, none⟩) ts.length cap, .int .i64 (a : Int)] w fun e w' => Got w ts o m e w' := by
  obtain ⟨W1, hW1⟩ : ∃ W1, (zw w).alloc (.cells #[.slice (some ⟨g, 0, none⟩) ts.length cap, .int .i64 (a : Int), .int .i64 0] 178) = W1 := ⟨_, rfl⟩
  have hk1 : Kept w W1 := by rw [← hW1]; exact (zw_kept w).al _
  have hkz : Kept (zw w) W1 := by rw [← hW1]; exact (Kept.refl _).al _
  have hD : Rd W1 (w.heap.size + 1) g cap s ts a 0 := by
    refine ⟨?_, ?_, ?_, ?_, ?_, ⟨fun j hj => (hk1.cell (p := ⟨g, j, none⟩) hg).trans (hr.cells j hj)⟩, by omega, Nat.lt_of_lt_of_le hg hk1.size, hf, Nat.le_of_lt h0, by decide⟩
    all_goals (rw [← hW1]; simp)
  have HC : Hid (Calls Tryz.prog 136 #[.pointer (some ⟨w.heap.size + 1, 0, none⟩)] W1 fun e w' => Red (w.heap.size + 1) g cap s ts 0 W1 o m e w') := (methods 8 0 rfl).2 _ _ _ _ _ _ _ hD o m hp
  have HZ1 : Hid (Bx W1 w.heap.size 0 0 ⟨#[]⟩ (.slice none 0 0)) := (zw_bx w).kept hkz
  have HK1 : Hid (Kept w W1) := hk1
  have hsz : W1.heap.size = w.heap.size + 2 := by rw [← hW1]; simp
  have g0 : decide ((ts.length : Int) ≤ (a : Int)) = false := decide_eq_false (by omega)
  have g1 : decide ((a : Int) < 0) = false := decide_eq_false (by omega)
  obtain ⟨N, hN⟩ : ∃ N, ts.length = N := ⟨_, rfl⟩
  have HN : Hid (ts.length = N) := hN
  rw [hN] at hW1 g0 h0 ⊢
  have HW1 : Hid _ := hW1
  clear hD hk1 hkz hp hr hN hf hW1
  go_enter Tryz.func121, Tryz.ntmps121
  go_wp2_with fail
  rw [show _ = W1 from HW1.out]
  refine HC.out.mono ?_
  rintro e w1 ⟨x, b, a1, n1, q1, rfl, hx, hb, hT, hB, hDr⟩
  have HZ : Hid (Bx w1 w.heap.size 0 0 ⟨#[]⟩ (.slice none 0 0)) := HZ1.out.but hB (by omega)
  have HX : Hid (x = oe o ∧ b = o.isSome ∧ ExsIn w1 W1.heap.size w1.heap.size x.of (.slice a1 n1 q1) ∧ But (w.heap.size + 1) W1 w1) := ⟨hx, hb, hT, hB⟩
  obtain ⟨r0, r1, r2, rz1, rz2, -⟩ := hDr
  obtain ⟨z0, z1, z2, z3, zf⟩ := HZ.out
  have hw1 := HZ.out.lt
  have hR1 : w.heap.size + 1 < w1.heap.size := block_lt_of_cell r0
  have HPO : ∃ pos, Hid (pos = ts.length - m.length) := ⟨_, rfl⟩
  obtain ⟨pos, HPO⟩ := HPO
  rw [← HPO.out] at r1
  rw [HN.out] at r0
  clear hx hb hT hB
  go_wp2_with fail
  go_region
  go_wp2_with fail
  obtain ⟨hx, hb, hT, hB⟩ := HX.out
  have q1' := (HZ.out.set x.kind x.n x.name (.slice a1 n1 q1)).set x.kind x.n x.name (.slice a1 n1 q1)
  have hkw : Kept w w1 := hB.kept HK1.out (by omega)
  obtain ⟨Wf, hWf⟩ : ∃ Wf, (w1.setCells w.heap.size 0 [.int .i64 x.kind, .int .i64 x.n, .string x.name, .slice a1 n1 q1]).setCells w.heap.size 0 [.int .i64 x.kind, .int .i64 x.n, .string x.name, .slice a1 n1 q1] = Wf := ⟨_, rfl⟩
  have hkf : Kept w Wf := by rw [← hWf]; exact Below.setCells (Below.setCells hkw (Nat.le_refl _) _ _) (Nat.le_refl _) _ _
  have hbl : ∀ i, i ≠ w.heap.size → Wf.heap[i]? = w1.heap[i]? := fun i hi => by rw [← hWf]; exact (heap_setCells _ _ _ _ i hi).trans (heap_setCells _ _ _ _ i hi)
  have hszf : Wf.heap.size = w1.heap.size := by rw [← hWf, size_setCells, size_setCells]
  rw [hWf] at q1'
  have hdd : Kept Wf Wf.drew := (Kept.refl _).dr
  have hfin : Got w ts o m (.returned (.tuple #[.agg #[.int .i64 x.kind, .int .i64 x.n, .string x.name, .slice a1 n1 q1], .int .i64 (pos : Int), .bool b])) Wf.drew := by
    refine ⟨x, b, pos, a1, n1, q1, rfl, hx, hb, HPO.out, ?_, hkf.dr⟩
    refine ((hT.stays fun k hk => hbl k (by have := hk.1; omega)).stays fun k hk => hdd.block k (by have := hk.2; omega)).mono fun k hk => ⟨by have := hk.1; omega, ?_⟩
    have := hk.2
    show k < Wf.heap.size
    omega
  have hbx := q1'.kept hdd
  rw [← hWf] at hfin hbx
  exact bodyPost_ret (ret_read Tryz.results121 _ rfl rfl rfl hbx) rfl hfin
end Go.Proofs.YtkobdephobaopaaGreatDoor
