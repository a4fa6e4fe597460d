/- The reader's methods: term, sum, minus, parentheses, inner, factor, expression. -/
import Derived.Test.YtbjdnniklcmcbaaDoorRr
namespace Go.Proofs.YtbjdnniklcmcbaaDoor
open Go.RowKit
attribute [local go_sem] run_store_complex

theorem enter44 (args : Array Value) (w : World) : (callFunc 44 args).run Tryd.prog w = .ok (.enter 44 args) w := enters_of Tryd.func44 (by kernel_rfl) rfl args w
theorem enter50 (args : Array Value) (w : World) : (callFunc 50 args).run Tryd.prog w = .ok (.enter 50 args) w := enters_of Tryd.func50 (by kernel_rfl) rfl args w
theorem enter64 (args : Array Value) (w : World) : (callFunc 64 args).run Tryd.prog w = .ok (.enter 64 args) w := enters_of Tryd.func64 (by kernel_rfl) rfl args w
theorem enter65 (args : Array Value) (w : World) : (callFunc 65 args).run Tryd.prog w = .ok (.enter 65 args) w := enters_of Tryd.func65 (by kernel_rfl) rfl args w

/-- The world behind the answer's own new cell. -/
abbrev zw (w : World) : World := w.alloc (.cells #[.int .i64 0, .int .i64 0, .string ⟨#[]⟩, .slice none 0 0] 25)
theorem zw_kept (w : World) : Kept w (zw w) := (Kept.refl _).al _
theorem zw_size (w : World) : (zw w).heap.size = w.heap.size + 1 := by simp
theorem zw_bx (w : World) : Bx (zw w) w.heap.size 0 0 ⟨#[]⟩ (.slice none 0 0) := Bx.new ..
theorem up_tree {w w1 : World} {x : Ex} {v : Value} (h : ExsIn w1 (zw w).heap.size w1.heap.size x.of v) : ExsD w1 (fun k => w.heap.size < k ∧ k < w1.heap.size) x.of v :=
  h.mono fun k hk => ⟨by have := hk.1; rw [zw_size] at this; omega, hk.2⟩

theorem heap_at {W : World} {k : Nat} (h : W.heap.size = k) (o : Obj) : (W.alloc o).heap[k]? = some o := by subst h; exact heap_alloc_new _ _
theorem tree_up {B : Nat} {cs : List Value} {wr W : World} {l : List Ex} {v : Value} (hK : Kept (wr.setCells B 0 cs) W) (hT : ExsD wr (fun k => B < k ∧ k < wr.heap.size) l v) : ExsD W (fun k => B < k ∧ k < W.heap.size) l v := by
  have hs := hK.size
  rw [size_setCells] at hs
  refine (hT.stays fun k hk => (hK.block k (by rw [size_setCells]; exact hk.2)).trans (heap_setCells _ _ _ _ k (by have := hk.1; omega))).mono fun k hk => ⟨hk.1, by have := hk.2; omega⟩
/-- The end of a method, with new blocks behind. -/
theorem red_endK {fn : Func} {p u : Tmp} (hf : fn.results = #[.cell p 25, .tmp u]) {tmps : Array Value} {w wr W : World} {R g cap : Nat} {s : ByteArray} {ts : List Lx.Tk} {d b : Nat} {o : Option Ex} {m : List Lx.Core} (x : Ex) (ok : Bool) {a : Option Addr} {n q : Nat} {k0 n0 : Int} {s0 : ByteArray} {v0 : Value}
    (hp : tmps.getD p undef = .pointer (some ⟨w.heap.size, 0, none⟩)) (hu : tmps.getD u undef = .bool ok) (hz : Bx wr w.heap.size k0 n0 s0 v0) (hK : Kept (wr.setCells w.heap.size 0 [.int .i64 x.kind, .int .i64 x.n, .string x.name, .slice a n q]) W) (hT : ExsD W (fun k => w.heap.size < k ∧ k < W.heap.size) x.of (.slice a n q)) (hB : But R w wr) (hR : Rd wr R g cap s ts b d) (hRw : R < w.heap.size) (hgw : g < w.heap.size)
    (hx : x = oe o) (hb : ok = o.isSome) (hm : b = ts.length - m.length) :
    bodyPost Tryd.prog fn (fun e w' => Red R g cap s ts d w o m e w') .ret { tmps := tmps, defers := [] } W := by
  have hq := (hz.set x.kind x.n x.name (.slice a n q)).kept hK
  refine bodyPost_ret (ret_red hf _ hp hu hq) rfl ⟨x, ok, a, n, q, rfl, hx, hb, ?_, (hB.sets (Nat.le_refl _) _ _).then (But.of hK), ?_⟩
  · exact hT.mono fun k hk => ⟨by have := hk.1; omega, hk.2⟩
  · rw [← hm]; exact (hR.sets (by omega) (by omega) _ _).kept hK

set_option maxRecDepth 100000 in
set_option maxHeartbeats 1000000 in
theorem term_any (d : Nat) (f : Px.P) (hs : Px.Suf f) (H : PM 50 d f) : PM 44 d (Px.row 3 f) := by
  intro R g cap s ts a w h o m hp
  have HR : Hid (Rd w R g cap s ts a d) := h
  have HC : Hid (Calls Tryd.prog 43 #[.pointer (some ⟨R, 0, none⟩), .int .i64 3, .func (.func 50) #[.pointer (some ⟨R, 0, none⟩)] #[]] (zw w) fun e w' => Red R g cap s ts d (zw w) o m e w') := row_any 50 d 3 f enter50 hs H (by omega) (h.kept (zw_kept w)) o m hp
  clear h hp
  go_enter Tryd.func44, Tryd.ntmps44
  go_wp2_with fail
  refine HC.out.mono ?_
  rintro e w1 ⟨x, b, a1, n1, q1, rfl, hx, hb, hT, hB, hD⟩
  have hRw := HR.out.rlt
  have hz := (zw_bx w).but hB (by omega)
  have HZ : Hid (Bx w1 w.heap.size 0 0 ⟨#[]⟩ (.slice none 0 0)) := hz
  have HX : Hid (x = oe o ∧ b = o.isSome ∧ ExsIn w1 (zw w).heap.size w1.heap.size x.of (.slice a1 n1 q1) ∧ But R (zw w) w1 ∧ Rd w1 R g cap s ts (ts.length - m.length) d) := ⟨hx, hb, hT, hB, hD⟩
  obtain ⟨y0, y1, y2, y3, yf⟩ := hz
  clear hx hb hT hB hD
  go_wp2_with fail
  obtain ⟨hx, hb, hT, hB, hD⟩ := HX.out
  exact red_end Tryd.results44 (x := x) (ok := b) rfl rfl HZ.out (up_tree hT) ((But.of (zw_kept w)).then hB) hD hRw HR.out.lt hx hb rfl

set_option maxRecDepth 100000 in
set_option maxHeartbeats 1000000 in
theorem sum_any (d : Nat) (f : Px.P) (hs : Px.Suf f) (H : PM 50 d f) : PM 33 d (Px.sum f) := by
  intro R g cap s ts a w h o m hp
  have HR : Hid (Rd w R g cap s ts a d) := h
  have HC : Hid (Calls Tryd.prog 43 #[.pointer (some ⟨R, 0, none⟩), .int .i64 2, .func (.func 44) #[.pointer (some ⟨R, 0, none⟩)] #[]] (zw w) fun e w' => Red R g cap s ts d (zw w) o m e w') := row_any 44 d 2 (Px.row 3 f) enter44 (Px.row_suf hs) (term_any d f hs H) (by omega) (h.kept (zw_kept w)) o m hp
  clear h hp H
  go_enter Tryd.func33, Tryd.ntmps33
  go_wp2_with fail
  refine HC.out.mono ?_
  rintro e w1 ⟨x, b, a1, n1, q1, rfl, hx, hb, hT, hB, hD⟩
  have hRw := HR.out.rlt
  have hz := (zw_bx w).but hB (by omega)
  have HZ : Hid (Bx w1 w.heap.size 0 0 ⟨#[]⟩ (.slice none 0 0)) := hz
  have HX : Hid (x = oe o ∧ b = o.isSome ∧ ExsIn w1 (zw w).heap.size w1.heap.size x.of (.slice a1 n1 q1) ∧ But R (zw w) w1 ∧ Rd w1 R g cap s ts (ts.length - m.length) d) := ⟨hx, hb, hT, hB, hD⟩
  obtain ⟨y0, y1, y2, y3, yf⟩ := hz
  clear hx hb hT hB hD
  go_wp2_with fail
  obtain ⟨hx, hb, hT, hB, hD⟩ := HX.out
  exact red_end Tryd.results33 (x := x) (ok := b) rfl rfl HZ.out (up_tree hT) ((But.of (zw_kept w)).then hB) hD hRw HR.out.lt hx hb rfl

set_option maxRecDepth 100000 in
set_option maxHeartbeats 1000000 in
theorem inner_any (F : Nat) (hF : ∀ args w, (callFunc F args).run Tryd.prog w = .ok (.enter F args) w) (d : Nat) (hd : d < 8) (f : Px.P) (H : PM F (d + 1) f) {R g cap : Nat} {s : ByteArray} {ts : List Lx.Tk} {a : Nat} {w : World} (h : Rd w R g cap s ts a d) (ha : a < ts.length) (o : Option Ex) (m : List Lx.Core) (hp : f (left ts (a + 1)) = (o, m)) :
    Calls Tryd.prog 63 #[.pointer (some ⟨R, 0, none⟩), .func (.func F) #[.pointer (some ⟨R, 0, none⟩)] #[]] w fun e w' => Red R g cap s ts d w o m e w' := by
  have HR : Hid (Rd w R g cap s ts a d) := h
  have hD1 : Rd (zw ((w.setCell ⟨R, 1, none⟩ (.int .i64 ((a : Int) + 1))).setCell ⟨R, 2, none⟩ (.int .i64 ((d : Int) + 1)))) R g cap s ts (a + 1) (d + 1) := ((h.at' (a + 1) ha).deep (d + 1) hd).kept (zw_kept _)
  have HC : Hid (Calls Tryd.prog F #[.pointer (some ⟨R, 0, none⟩)] (zw ((w.setCell ⟨R, 1, none⟩ (.int .i64 ((a : Int) + 1))).setCell ⟨R, 2, none⟩ (.int .i64 ((d : Int) + 1)))) fun e w' => Red R g cap s ts (d + 1) (zw ((w.setCell ⟨R, 1, none⟩ (.int .i64 ((a : Int) + 1))).setCell ⟨R, 2, none⟩ (.int .i64 ((d : Int) + 1)))) o m e w') := H R g cap s ts (a + 1) _ hD1 o m hp
  have hRw := h.rlt
  have hfew := h.few
  obtain ⟨r0, r1, r2, rz1, rz2, -⟩ := h
  clear hD1 hp H
  go_enter Tryd.func63, Tryd.ntmps63
  go_wp2_with fail
  refine HC.out.mono ?_
  have hBw : But R w (zw ((w.setCell ⟨R, 1, none⟩ (.int .i64 ((a : Int) + 1))).setCell ⟨R, 2, none⟩ (.int .i64 ((d : Int) + 1)))) := (((But.refl R w).set 1 _).set 2 _).then (But.of (zw_kept _))
  have hzb : Bx (zw ((w.setCell ⟨R, 1, none⟩ (.int .i64 ((a : Int) + 1))).setCell ⟨R, 2, none⟩ (.int .i64 ((d : Int) + 1)))) w.heap.size 0 0 ⟨#[]⟩ (.slice none 0 0) := by
    have := zw_bx ((w.setCell ⟨R, 1, none⟩ (.int .i64 ((a : Int) + 1))).setCell ⟨R, 2, none⟩ (.int .i64 ((d : Int) + 1))); rwa [setCell_size, setCell_size] at this
  have hsz : (zw ((w.setCell ⟨R, 1, none⟩ (.int .i64 ((a : Int) + 1))).setCell ⟨R, 2, none⟩ (.int .i64 ((d : Int) + 1)))).heap.size = (zw w).heap.size := by simp
  generalize (zw ((w.setCell ⟨R, 1, none⟩ (.int .i64 ((a : Int) + 1))).setCell ⟨R, 2, none⟩ (.int .i64 ((d : Int) + 1)))) = W1 at *
  rintro e w1 ⟨x, b, a1, n1, q1, rfl, hx, hb, hT, hB, hD⟩
  rw [hsz] at hT
  have hz := hzb.but hB (by omega)
  have HZ : Hid (Bx w1 w.heap.size 0 0 ⟨#[]⟩ (.slice none 0 0)) := hz
  have HX : Hid (x = oe o ∧ b = o.isSome ∧ ExsIn w1 (zw w).heap.size w1.heap.size x.of (.slice a1 n1 q1) ∧ But R w w1 ∧ Rd w1 R g cap s ts (ts.length - m.length) (d + 1)) := ⟨hx, hb, hT, hBw.then hB, hD⟩
  obtain ⟨r0', r1', r2', rz1', rz2', -⟩ := hD
  have hR1 := HX.out.2.2.2.2.rlt
  obtain ⟨y0, y1, y2, y3, yf⟩ := hz
  have hw1 : w.heap.size < w1.heap.size := block_lt_of_cell y0
  have hneR : w.heap.size ≠ R := by omega
  clear hx hb hT hB hBw hzb r0 r1 r2 rz1 rz2 hsz
  go_wp2_with fail
  obtain ⟨hx, hb, hT, hB, hD⟩ := HX.out
  have hBs := (But.refl R w1).set 2 (.int .i64 (d : Int))
  have hTs : ExsD (w1.setCell ⟨R, 2, none⟩ (.int .i64 (d : Int))) (fun k => w.heap.size < k ∧ k < (w1.setCell ⟨R, 2, none⟩ (.int .i64 (d : Int))).heap.size) x.of (.slice a1 n1 q1) := by
    rw [setCell_size]; exact (up_tree hT).but hBs fun k hk => ⟨hk.2, by have := hk.1; omega⟩
  have hK : Kept ((w1.setCell ⟨R, 2, none⟩ (.int .i64 (d : Int))).setCells w.heap.size 0 [.int .i64 x.kind, .int .i64 x.n, .string x.name, .slice a1 n1 q1]) (((w1.setCell ⟨R, 2, none⟩ (.int .i64 (d : Int))).setCells w.heap.size 0 [.int .i64 x.kind, .int .i64 x.n, .string x.name, .slice a1 n1 q1]).alloc (.cells #[.int .i64 x.kind, .int .i64 x.n, .string x.name, .slice a1 n1 q1] 25)) := (Kept.refl _).al _
  have hZ' := HZ.out.but hBs hneR
  have hD' := hD.deep d (by omega)
  exact red_endK Tryd.results63 x b rfl rfl hZ' hK (tree_up hK hTs) (hB.then hBs) hD' hRw HR.out.lt hx hb rfl

set_option maxRecDepth 100000 in
set_option maxHeartbeats 1000000 in
theorem minus_any (d : Nat) (f : Px.P) (H : PM 50 d f) : PM 64 d (Px.minus f) := by
  intro R g cap s ts a w h o m hp
  have HR : Hid (Rd w R g cap s ts a d) := h
  obtain ⟨o1, m1, hp1⟩ : ∃ o1 m1, f (left ts a) = (o1, m1) := ⟨_, _, rfl⟩
  have HC : Hid (Calls Tryd.prog 50 #[.pointer (some ⟨R, 0, none⟩)] (zw w) fun e w' => Red R g cap s ts d (zw w) o1 m1 e w') := H R g cap s ts a _ (h.kept (zw_kept w)) o1 m1 hp1
  unfold Px.minus at hp
  rw [hp1] at hp
  have HP : Hid _ := hp
  have hRw := h.rlt
  clear h hp hp1 H
  go_enter Tryd.func64, Tryd.ntmps64
  go_wp2_with fail
  refine HC.out.mono ?_
  rintro e w1 ⟨x, b, a1, n1, q1, rfl, hx, hb, hT, hB, hD⟩
  have hz := (zw_bx w).but hB (by omega)
  have HZ : Hid (Bx w1 w.heap.size 0 0 ⟨#[]⟩ (.slice none 0 0)) := hz
  have HX : Hid (x = oe o1 ∧ ExsIn w1 (zw w).heap.size w1.heap.size x.of (.slice a1 n1 q1) ∧ But R (zw w) w1 ∧ Rd w1 R g cap s ts (ts.length - m1.length) d) := ⟨hx, hT, hB, hD⟩
  obtain ⟨y0, y1, y2, y3, yf⟩ := hz
  have hw1 : w.heap.size < w1.heap.size := block_lt_of_cell y0
  clear hT hB hD
  cases o1 with
  | none =>
    cases hb
    go_wp2_with fail
    obtain ⟨hx, hT, hB, hD⟩ := HX.out
    have e := HP.out
    simp only [Prod.mk.injEq] at e
    obtain ⟨rfl, rfl⟩ := e
    exact red_endK Tryd.results64 ex0 false rfl rfl HZ.out ((Kept.refl _).al _) (ExsD.nil _ _) ((But.of (zw_kept w)).then hB) hD hRw HR.out.lt rfl rfl rfl
  | some y =>
    cases hb
    cases hx
    go_wp2_with fail
    obtain ⟨hx, hT, hB, hD⟩ := HX.out
    have e := HP.out
    simp only [Prod.mk.injEq] at e
    obtain ⟨rfl, rfl⟩ := e
    have hK : Kept (w1.setCells w.heap.size 0 [.int .i64 3, .int .i64 0, .string ⟨#[]⟩, .slice (some ⟨w1.heap.size + 1, 0, none⟩) 1 1]) (((w1.setCells w.heap.size 0 [.int .i64 3, .int .i64 0, .string ⟨#[]⟩, .slice (some ⟨w1.heap.size + 1, 0, none⟩) 1 1]).alloc (.cells #[.int .i64 y.kind, .int .i64 y.n, .string y.name, .slice a1 n1 q1] 25)).alloc (.cells #[.int .i64 y.kind, .int .i64 y.n, .string y.name, .slice a1 n1 q1] 25)) := ((Kept.refl _).al _).al _
    refine red_endK Tryd.results64 (Px.minusE y) true rfl rfl HZ.out hK ?_ ((But.of (zw_kept w)).then hB) hD hRw HR.out.lt rfl rfl rfl
    refine ExsD.one (v := .slice a1 n1 q1) ⟨by omega, by simp⟩ ?_ (tree_up hK (up_tree hT))
    exact heap_at (by simp) _

set_option maxRecDepth 100000 in
set_option maxHeartbeats 1000000 in
theorem paren_any (d : Nat) (f : Px.P) (hs : Px.Suf f) (H : PM 22 d (Px.expr f)) : PM 65 d (Px.paren f) := by
  intro R g cap s ts a w h o m hp
  have HR : Hid (Rd w R g cap s ts a d) := h
  obtain ⟨o1, m1, hp1⟩ : ∃ o1 m1, Px.expr f (left ts a) = (o1, m1) := ⟨_, _, rfl⟩
  have HC : Hid (Calls Tryd.prog 22 #[.pointer (some ⟨R, 0, none⟩)] (zw w) fun e w' => Red R g cap s ts d (zw w) o1 m1 e w') := H R g cap s ts a _ (h.kept (zw_kept w)) o1 m1 hp1
  have hsuf : m1 <:+ left ts a := by have := Px.expr_suf hs (left ts a); rw [hp1] at this; exact this
  have HL : Hid (left ts (ts.length - m1.length) = m1) := suf_left hsuf
  have HML : Hid (m1.length ≤ ts.length) := by have := suf_len hsuf; show m1.length ≤ ts.length; omega
  unfold Px.paren at hp
  rw [hp1] at hp
  have HP : Hid _ := hp
  have hRw := h.rlt
  have hfew := h.few
  clear h hp hp1 H hsuf
  go_enter Tryd.func65, Tryd.ntmps65
  go_wp2_with fail
  refine HC.out.mono ?_
  rintro e w1 ⟨x, b, a1, n1, q1, rfl, hx, hb, hT, hB, hD⟩
  have hz := (zw_bx w).but hB (by omega)
  have HZ : Hid (Bx w1 w.heap.size 0 0 ⟨#[]⟩ (.slice none 0 0)) := hz
  have HX : Hid (x = oe o1 ∧ ExsIn w1 (zw w).heap.size w1.heap.size x.of (.slice a1 n1 q1) ∧ But R (zw w) w1 ∧ Rd w1 R g cap s ts (ts.length - m1.length) d) := ⟨hx, hT, hB, hD⟩
  obtain ⟨y0, y1, y2, y3, yf⟩ := hz
  have hw1 : w.heap.size < w1.heap.size := block_lt_of_cell y0
  clear hT hB hD
  cases o1 with
  | none =>
    cases hb
    go_wp2_with fail
    obtain ⟨hx, hT, hB, hD⟩ := HX.out
    have e := HP.out
    simp only [Prod.mk.injEq] at e
    obtain ⟨rfl, rfl⟩ := e
    exact red_endK Tryd.results65 ex0 false rfl rfl HZ.out ((Kept.refl _).al _) (ExsD.nil _ _) ((But.of (zw_kept w)).then hB) hD hRw HR.out.lt rfl rfl rfl
  | some y =>
    cases hb
    cases hx
    cases hc : Px.isSg [41] (Px.hd m1) with
    | false =>
      have HI : Hid (∀ W, Kept w1 W → Calls Tryd.prog 45 #[.pointer (some ⟨R, 0, none⟩), .string ⟨#[41]⟩] W fun e w' => e = .returned (.bool false) ∧ Kept W w') := fun W hW => isSign_any (HX.out.2.2.2.kept hW) ⟨#[41]⟩ _ (by rw [HL.out]; exact hc)
      have HCC : Hid (Px.isSg [41] (Px.hd m1) = false) := hc
      clear hc
      go_wp2_with fail
      refine (HI.out _ ((Kept.refl _).al _)).mono ?_
      rintro e w2 ⟨rfl, k2⟩
      have K2 : Hid (Kept w1 w2) := ((Kept.refl w1).al _).then k2
      obtain ⟨z0, z1, z2, z3, zf⟩ := HZ.out.kept K2.out
      have hw2 : w.heap.size < w2.heap.size := block_lt_of_cell z0
      clear k2
      go_wp2_with fail
      obtain ⟨hx, hT, hB, hD⟩ := HX.out
      have e := HP.out
      simp only [HCC.out, Prod.mk.injEq, Bool.false_eq_true, if_false] at e
      obtain ⟨rfl, rfl⟩ := e
      exact red_endK Tryd.results65 ex0 false rfl rfl (HZ.out.kept K2.out) (Kept.refl _) (ExsD.nil _ _) (((But.of (zw_kept w)).then hB).then (But.of K2.out)) (hD.kept K2.out) hRw HR.out.lt rfl rfl rfl
    | true =>
      have HI : Hid (∀ W, Kept w1 W → Calls Tryd.prog 45 #[.pointer (some ⟨R, 0, none⟩), .string ⟨#[41]⟩] W fun e w' => e = .returned (.bool true) ∧ Kept W w') := fun W hW => isSign_any (HX.out.2.2.2.kept hW) ⟨#[41]⟩ _ (by rw [HL.out]; exact hc)
      have HCC : Hid (Px.isSg [41] (Px.hd m1) = true) := hc
      have hlt : ts.length - m1.length < ts.length := hd_lt ts _ (by rw [HL.out, Px.isSg_hd hc]; decide)
      clear hc
      go_wp2_with fail
      refine (HI.out _ ((Kept.refl _).al _)).mono ?_
      rintro e w2 ⟨rfl, k2⟩
      have KA : Hid (Bx w2 w1.heap.size y.kind y.n y.name (.slice a1 n1 q1)) := (Bx.new ..).kept k2
      have K2 : Hid (Kept w1 w2) := ((Kept.refl w1).al _).then k2
      have HD2 : Hid (Rd w2 R g cap s ts (ts.length - m1.length) d) := HX.out.2.2.2.kept K2.out
      obtain ⟨r0, r1, r2, rz1, rz2, -⟩ := HD2.out
      obtain ⟨z0, z1, z2, z3, zf⟩ := HZ.out.kept K2.out
      obtain ⟨c0, c1, c2, c3, cf⟩ := KA.out
      have hw2 : w.heap.size < w2.heap.size := block_lt_of_cell z0
      have hR2 := HD2.out.rlt
      have hw12 := KA.out.lt
      have hneR : w.heap.size ≠ R := by omega
      have hneA : w1.heap.size ≠ R := by omega
      generalize hpos : ts.length - m1.length = pos at *
      clear k2 y0 y1 y2 y3 yf
      go_wp2_with fail
      obtain ⟨hx, hT, hB, hD⟩ := HX.out
      have e := HP.out
      simp only [HCC.out, Prod.mk.injEq, if_true] at e
      obtain ⟨rfl, rfl⟩ := e
      have hBs := (But.refl R w2).set 1 (.int .i64 ((pos : Int) + 1))
      have hTs : ExsD (w2.setCell ⟨R, 1, none⟩ (.int .i64 ((pos : Int) + 1))) (fun k => w.heap.size < k ∧ k < (w2.setCell ⟨R, 1, none⟩ (.int .i64 ((pos : Int) + 1))).heap.size) y.of (.slice a1 n1 q1) := by
        rw [setCell_size]
        have h1 : ExsD w2 (fun k => w.heap.size < k ∧ k < w2.heap.size) y.of (.slice a1 n1 q1) := ((up_tree hT).stays fun k hk => K2.out.block k hk.2).mono fun k hk => ⟨hk.1, Nat.lt_of_lt_of_le hk.2 K2.out.size⟩
        exact h1.but hBs fun k hk => ⟨hk.2, by have := hk.1; omega⟩
      have hD' : Rd (w2.setCell ⟨R, 1, none⟩ (.int .i64 ((pos : Int) + 1))) R g cap s ts (pos + 1) d := HD2.out.at' (pos + 1) hlt
      have hZ' := (HZ.out.kept K2.out).but hBs hneR
      have hK : Kept ((w2.setCell ⟨R, 1, none⟩ (.int .i64 ((pos : Int) + 1))).setCells w.heap.size 0 [.int .i64 y.kind, .int .i64 y.n, .string y.name, .slice a1 n1 q1]) ((w2.setCell ⟨R, 1, none⟩ (.int .i64 ((pos : Int) + 1))).setCells w.heap.size 0 [.int .i64 y.kind, .int .i64 y.n, .string y.name, .slice a1 n1 q1]) := Kept.refl _
      refine red_endK Tryd.results65 y true rfl rfl hZ' hK (tree_up hK hTs) ((((But.of (zw_kept w)).then hB).then (But.of K2.out)).then hBs) hD' hRw HR.out.lt rfl rfl ?_
      have := HML.out
      rw [List.length_tail]; omega
#print axioms paren_any
end Go.Proofs.YtbjdnniklcmcbaaDoor
