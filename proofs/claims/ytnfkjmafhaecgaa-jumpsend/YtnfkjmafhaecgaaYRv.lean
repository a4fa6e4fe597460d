/- Rv -/
import Derived.Test.YtnfkjmafhaecgaaYRu
import Derived.Test.YtnfkjmafhaecgaaYRdB
import Derived.Test.YtnfkjmafhaecgaaYPaA

namespace Go.Proofs.Ytnfkjmafhaecgaa
open Go.RowKit
attribute [local go_sem] run_store_complex
theorem ret_ex {fn : Func} {p : Tmp} (h : fn.results = #[.cell p 44]) (tmps : Array Value) {w : World} {B : Nat} {k n : Int} {s : ByteArray} {v : Value} (hp : tmps.getD p undef = .pointer (some ⟨B, 0, none⟩)) (hB : Bx w B k n s v) :
    (results fn tmps).run Try.prog w = .ok (.agg #[.int .i64 k, .int .i64 n, .string s, v]) w :=
  results_cell_mid (P := Try.prog) h _ _ B 0 _ _ hp hB.range Try.underlying44 rfl esizeEx
/-- What an expression's method leaves. -/
def Redq (R g cap : Nat) (ts : List Lx.Tk) (bad : Nat) (w : World) (o : Option Ex) (m : List Lx.Core) (e : Ending) (w' : World) : Prop :=
  ∃ (k n : Int) (s : ByteArray) (a : Option Addr) (l q : Nat), e = .returned (.agg #[.int .i64 k, .int .i64 n, .string s, .slice a l q]) ∧ Hid (But R w w' ∧
    (∀ x, o = some x → k = x.kind ∧ n = x.n ∧ s = x.name ∧ ExsIn w' w.heap.size w'.heap.size x.of (.slice a l q) ∧ Rq w' R g cap ts (ts.length - m.length) false bad) ∧
    (o = none → ∃ a', a' < ts.length ∧ Rq w' R g cap ts a' true (ts.length - m.length)))
/-- Words are words. -/
def FitT (ts : List Lx.Tk) : Prop := ∀ t ∈ ts, t.kind = 1 → Lx.isWord t.text = true
def QM (F : Nat) (deep : Int) (part : Px.P) : Prop := ∀ (R g cap : Nat) (ts : List Lx.Tk) (a bad : Nat) (w : World), Rq w R g cap ts a false bad → Pp.Alive (left ts a) → FitT ts → ∀ o m, part (left ts a) = (o, m) →
  Calls Try.prog F #[.pointer (some ⟨R, 0, none⟩), .int .i64 deep] w fun e w' => Redq R g cap ts bad w o m e w'
theorem redq_endK {fn : Func} {p : Tmp} (hf : fn.results = #[.cell p 44]) {tmps : Array Value} {w wr W : World} {R g cap : Nat} {ts : List Lx.Tk} {bad : Nat} {o : Option Ex} {m : List Lx.Core} {k n : Int} {s : ByteArray} {a : Option Addr} {l q : Nat} {k0 n0 : Int} {s0 : ByteArray} {v0 : Value}
    (hp : tmps.getD p undef = .pointer (some ⟨w.heap.size, 0, none⟩)) (hz : Bx wr w.heap.size k0 n0 s0 v0) (hK : Kept (wr.setCells w.heap.size 0 [.int .i64 k, .int .i64 n, .string s, .slice a l q]) W) (hB : But R w wr) (hRw : R < w.heap.size) (hgw : g < w.heap.size)
    (H1 : ∀ x, o = some x → k = x.kind ∧ n = x.n ∧ s = x.name ∧ ExsD W (fun j => w.heap.size < j ∧ j < W.heap.size) x.of (.slice a l q) ∧ Rq wr R g cap ts (ts.length - m.length) false bad)
    (H2 : o = none → ∃ a', a' < ts.length ∧ Rq wr R g cap ts a' true (ts.length - m.length)) :
    bodyPost Try.prog fn (fun e w' => Redq R g cap ts bad w o m e w') .ret { tmps := tmps, defers := [] } W := by
  have hq := (hz.set k n s (.slice a l q)).kept hK
  have up : ∀ a fl b, Rq wr R g cap ts a fl b → Rq W R g cap ts a fl b := fun a fl b h => (h.sets (by omega) (by omega) _ _).kept hK
  refine bodyPost_ret (ret_ex hf _ hp hq) rfl ⟨k, n, s, a, l, q, rfl, (hB.sets (Nat.le_refl _) _ _).then (But.of hK), fun x hx => ?_, fun hx => ?_⟩
  · obtain ⟨h1, h2, h3, h4, h5⟩ := H1 x hx
    exact ⟨h1, h2, h3, h4.mono fun j hj => ⟨by have := hj.1; omega, hj.2⟩, up _ _ _ h5⟩
  · obtain ⟨a', h1, h2⟩ := H2 hx
    exact ⟨a', h1, up _ _ _ h2⟩
set_option maxRecDepth 100000 in
set_option maxHeartbeats 1000000 in
theorem binary_any (k k1 n1 k2 n2 : Int) (s1 s2 : ByteArray) (a1 a2 : Option Addr) (l1 q1 l2 q2 : Nat) (w : World) :
    Calls Try.prog 71 #[.int .i64 k, .agg #[.int .i64 k1, .int .i64 n1, .string s1, .slice a1 l1 q1], .agg #[.int .i64 k2, .int .i64 n2, .string s2, .slice a2 l2 q2]] w fun e w' => ∃ B, e = .returned (.agg #[.int .i64 k, .int .i64 0, .string ⟨#[]⟩, .slice (some ⟨B, 0, none⟩) 2 2]) ∧
      Hid (Kept w w' ∧ w.heap.size ≤ B ∧ B < w'.heap.size ∧ w'.heap[B]? = some (.cells #[.int .i64 k1, .int .i64 n1, .string s1, .slice a1 l1 q1, .int .i64 k2, .int .i64 n2, .string s2, .slice a2 l2 q2] 44 (0, 0))) := by
  go_enter Try.func71, Try.ntmps71
  go_wp2_with fail
  have z2 : ((w.alloc (.cells #[.int .i64 k1, .int .i64 n1, .string s1, .slice a1 l1 q1] 44)).alloc (.cells #[.int .i64 k2, .int .i64 n2, .string s2, .slice a2 l2 q2] 44)).heap.size = w.heap.size + 1 + 1 := by simp
  have h0 := Bx.new ((w.alloc (.cells #[.int .i64 k1, .int .i64 n1, .string s1, .slice a1 l1 q1] 44)).alloc (.cells #[.int .i64 k2, .int .i64 n2, .string s2, .slice a2 l2 q2] 44)) k 0 ⟨#[]⟩ (.slice (some ⟨w.heap.size + 1 + 1 + 1, 0, none⟩) 2 2)
  rw [z2] at h0
  refine bodyPost_ret (ret_ex Try.results71 _ rfl (h0.kept ((Kept.refl _).al _))) rfl ⟨w.heap.size + 1 + 1 + 1, rfl, ((((Kept.refl w).al _).al _).al _).al _, by omega, by simp, heap_at (by simp) _⟩
namespace Px
theorem fac_num (d : Nat) (l : List Lx.Core) (h : (hd l).1 = 2) : fac d l = (some (numE (hd l).2.2), l.tail) := by
  cases d <;> simp only [fac_zero, fac_succ] <;> rw [if_pos h]
theorem fac_name (d : Nat) (l : List Lx.Core) (h : (hd l).1 = 1) (hn : isNm (hd l).2.1 = true) : fac d l = (some (nameE (hd l).2.1), l.tail) := by
  have h2 : ¬ (hd l).1 = 2 := by omega
  cases d <;> simp only [fac_zero, fac_succ] <;> rw [if_neg h2, if_pos ⟨h, hn⟩]
theorem fac_end (l : List Lx.Core) (h : ¬ (hd l).1 = 2) (hn : ¬ ((hd l).1 = 1 ∧ isNm (hd l).2.1 = true)) : fac 0 l = (none, l) := by rw [fac_zero, if_neg h, if_neg hn]
theorem fac_sg (d : Nat) (l : List Lx.Core) (h : ¬ (hd l).1 = 2) (hn : ¬ ((hd l).1 = 1 ∧ isNm (hd l).2.1 = true)) : fac (d + 1) l = if isSg [45] (hd l) then minus (fac d) l.tail else if isSg [40] (hd l) then paren (fac d) l.tail else (none, l) := by rw [fac_succ, if_neg h, if_neg hn]
end Px
set_option maxRecDepth 100000 in
set_option maxHeartbeats 4000000 in
theorem rfactor_of (deep : Int) (d : Nat) (hd : deep + d = 8) (hd0 : 0 ≤ deep) (HF : ∀ e, d = e + 1 → QM 73 (deep + 1) (Px.fac e)) (HX : ∀ e, d = e + 1 → QM 69 (deep + 1) (Px.expr (Px.fac e))) : QM 73 deep (Px.fac d) := by
  intro R g cap ts a bad w h hal hfit o m hp
  have ha := alive_lt hal
  have HR : Hid (Rq w R g cap ts a false bad) := h
  have hRw := h.rlt
  have hgw := h.lt
  have c0 := h.c0
  have c1 := h.c1
  have c2 := h.c2
  have z1 := h.z 1
  have hf := h.few
  have hwr : IntKind.i64.wrap ((a : Int) + 1) = (a : Int) + 1 := by rw [IntKind.wrap_i64]; omega
  have hhd := hd_in ts a ha
  have hw1 : ts[a].kind = 1 → Lx.isWord ts[a].text = true := hfit _ (List.getElem_mem ha)
  obtain ⟨t0, t1, t2, t3⟩ := h.tok a ha
  have hai : (a : Int) < (ts.length : Int) := by omega
  have HA : Hid (a < ts.length) := ha
  have HAL : Hid (Pp.Alive (left ts a)) := hal
  have HFT : Hid (FitT ts) := hfit
  have HHD : Hid _ := hhd
  generalize ts[a].kind = kd at *
  generalize ts[a].text = tx at *
  generalize ts[a].n = nn at *
  generalize ts[a].at' = aa at *
  obtain ⟨N, hN⟩ : ∃ N, ts.length = N := ⟨_, rfl⟩
  have HN : Hid (ts.length = N) := hN
  rw [hN] at c0 hf hai
  clear h hal hfit ha hN
  go_enter Try.func73, Try.ntmps73
  go_wp2_with fail
  go_region
  obtain ⟨W1, hW1⟩ : ∃ W1, ((zw w).alloc (.cells #[.int .i64 (kd : Int), .string (Px.ba tx), .int .i64 (nn : Int), .int .i64 (aa : Int)] 99)).drew = W1 := ⟨_, rfl⟩
  have hk1 : Kept (zw w) W1 := by rw [← hW1]; exact ((Kept.refl _).al _).dr
  have KW1 : Hid (Kept w W1) := (zw_kept w).then hk1
  have hbz : Bx W1 w.heap.size 0 0 ⟨#[]⟩ (.slice none 0 0) := (zw_bx w).kept hk1
  have HBZ : Hid (Bx W1 w.heap.size 0 0 ⟨#[]⟩ (.slice none 0 0)) := hbz
  have hq1 := HR.out.kept KW1.out
  have HQ1 : Hid (Rq W1 R g cap ts a false bad) := hq1
  have u0 : W1.cell? ⟨w.heap.size + 1, 0, none⟩ = some (.int .i64 (kd : Int)) := by rw [← hW1]; exact (Kept.refl _).dr.cellS (by simp)
  have u1 : W1.cell? ⟨w.heap.size + 1, 1, none⟩ = some (.string (Px.ba tx)) := by rw [← hW1]; exact (Kept.refl _).dr.cellS (by simp)
  have u2 : W1.cell? ⟨w.heap.size + 1, 2, none⟩ = some (.int .i64 (nn : Int)) := by rw [← hW1]; exact (Kept.refl _).dr.cellS (by simp)
  have hz1 : w.heap.size + 1 < W1.heap.size := block_lt_of_cell u0
  have hz0 : w.heap.size < W1.heap.size := by omega
  have hRz : R ≠ w.heap.size := by omega
  have hRz' : R ≠ w.heap.size + 1 := by omega
  have hR1 : R < W1.heap.size := by omega
  rw [hW1]
  replace c1 := hq1.c1
  replace z1 := hq1.z 1
  obtain ⟨y0, y1, y2, y3, yf⟩ := hbz
  clear hW1 hk1 hq1 c0 c2 t0 t1 t2 t3 hgw
  have SG : Hid (∀ W x, Kept W1 W → Calls Try.prog 61 #[.pointer (some ⟨R, 0, none⟩), .string x] W fun e w' => e = .returned (.bool (Px.isSg x.data.toList (kd, tx, nn))) ∧ Kept W w') := fun W x hW => by
    have := rsign_any (HQ1.out.kept hW) HA.out x
    rw [HHD.out] at this
    exact this
  have FL : Hid (∀ W, Kept W1 W → Calls Try.prog 49 #[.pointer (some ⟨R, 0, none⟩)] W fun e w' => (∃ v, e = .returned v) ∧ But R W w' ∧ Rq w' R g cap ts a true a) := fun W hW => fail_any (HQ1.out.kept hW)
  have LF : Hid (ts.length - (left ts a).length = a) := by show _ = _; rw [left_len]; have := HA.out; omega
  have LT : Hid (ts.length - (left ts a).tail.length = a + 1) := by show _ = _; rw [left_tail, left_len]; have := HA.out; omega
  have SG45 : Hid (∀ W, Kept W1 W → Calls Try.prog 61 #[.pointer (some ⟨R, 0, none⟩), .string ⟨#[45]⟩] W fun e w' => e = .returned (.bool (Px.isSg [45] (kd, tx, nn))) ∧ Kept W w') := fun W hW => SG.out W ⟨#[45]⟩ hW
  have SG40 : Hid (∀ W, Kept W1 W → Calls Try.prog 61 #[.pointer (some ⟨R, 0, none⟩), .string ⟨#[40]⟩] W fun e w' => e = .returned (.bool (Px.isSg [40] (kd, tx, nn))) ∧ Kept W w') := fun W hW => SG.out W ⟨#[40]⟩ hW
  clear SG
  by_cases h2 : kd = 2
  · subst h2
    rw [Px.fac_num d _ (by rw [hhd])] at hp
    injection hp with e1 e2
    subst e1 e2
    have HE : Hid ((Px.hd (left ts a)).2.2 = nn) := by show _ = _; rw [hhd]
    clear hhd hw1
    go_wp2_with fail
    have hq2 := HQ1.out.at' (a + 1) HA.out
    have hb2 : But R W1 (W1.setCell ⟨R, 1, none⟩ (.int .i64 ((a : Int) + 1))) := (But.refl R W1).set _ _
    rw [show ((a + 1 : Nat) : Int) = (a : Int) + 1 by omega] at hq2
    exact redq_endK Try.results73 rfl (HBZ.out.but hb2 (Ne.symm hRz)) (Kept.refl _) ((But.of KW1.out).then hb2) hRw HR.out.lt (fun x hx => by cases hx; exact ⟨rfl, by rw [HE.out]; rfl, rfl, ExsD.nil _ _, by rw [LT.out]; exact hq2⟩) (fun h => by cases h)
  · have g2 : ((kd : Int) == 2) = false := ne_int (by omega)
    by_cases h1 : kd = 1
    · subst h1
      have hw := hw1 rfl
      cases hkw : kw (Px.ba tx) with
      | false =>
        have HKW : Hid (∀ W, Calls Try.prog 59 #[.string (Px.ba tx)] W fun e w' => e = .returned (.bool false) ∧ w' = W) := fun W => refKeyword_any _ _ hkw W
        rw [Px.fac_name d _ (by rw [hhd]) (by rw [hhd, isNm_kw, hkw, hw]; rfl)] at hp
        injection hp with e1 e2
        subst e1 e2
        have HE : Hid ((Px.hd (left ts a)).2.1 = tx) := by show _ = _; rw [hhd]
        clear hhd hw1 hw hkw
        go_wp2_with fail
        refine (HKW.out _).mono ?_
        rintro e w2 ⟨rfl, rfl⟩
        go_wp2_with fail
        have hq2 := HQ1.out.at' (a + 1) HA.out
        have hb2 : But R w2 (w2.setCell ⟨R, 1, none⟩ (.int .i64 ((a : Int) + 1))) := (But.refl R w2).set _ _
        rw [show ((a + 1 : Nat) : Int) = (a : Int) + 1 by omega] at hq2
        exact redq_endK Try.results73 rfl (HBZ.out.but hb2 (Ne.symm hRz)) (Kept.refl _) ((But.of KW1.out).then hb2) hRw HR.out.lt (fun x hx => by cases hx; exact ⟨rfl, rfl, by rw [HE.out]; rfl, ExsD.nil _ _, by rw [LT.out]; exact hq2⟩) (fun h => by cases h)
      | true =>
        have HKW : Hid (∀ W, Calls Try.prog 59 #[.string (Px.ba tx)] W fun e w' => e = .returned (.bool true) ∧ w' = W) := fun W => refKeyword_any _ _ hkw W
        have hs1 : Px.isSg [45] (1, tx, nn) = false := rfl
        have hs2 : Px.isSg [40] (1, tx, nn) = false := rfl
        have hnm : Px.isNm tx = false := by rw [isNm_kw, hkw]; simp
        have hfc : Px.fac d (left ts a) = (none, left ts a) := by
          cases d with
          | zero => exact Px.fac_end _ (by rw [hhd]; show ¬ (1 = 2); decide) (by rw [hhd]; simp [hnm])
          | succ e => rw [Px.fac_sg e _ (by rw [hhd]; show ¬ (1 = 2); decide) (by rw [hhd]; simp [hnm]), hhd, hs1, hs2]; rfl
        rw [hfc] at hp
        injection hp with e1 e2
        subst e1 e2
        rw [hs1] at SG45
        rw [hs2] at SG40
        clear hhd hw1 hw hkw hnm hfc hs1 hs2
        go_wp2_with fail
        refine (HKW.out _).mono ?_
        rintro e w2 ⟨rfl, rfl⟩
        go_wp2_with fail
        refine (SG45.out _ (Kept.refl _)).mono ?_
        rintro e w3 ⟨rfl, kk⟩
        have Kw3 : Hid (Kept w2 w3) := ((Kept.refl _)).then kk
        clear kk
        go_wp2_with fail
        refine (SG40.out _ Kw3.out).mono ?_
        rintro e w4 ⟨rfl, kk⟩
        have Kw4 : Hid (Kept w2 w4) := (Kw3.out).then kk
        clear kk
        go_wp2_with fail
        refine (FL.out _ Kw4.out).mono ?_
        rintro e w9 ⟨⟨v, rfl⟩, hb, hq⟩
        have HB9 : Hid (But R w2 w9) := (But.of Kw4.out).then hb
        have HQ9 : Hid (Rq w9 R g cap ts a true a) := hq
        have hbz9 := HBZ.out.but HB9.out (Ne.symm hRz)
        have HZ9 : Hid (Bx w9 w.heap.size 0 0 ⟨#[]⟩ (.slice none 0 0)) := hbz9
        obtain ⟨v0, v1, v2, v3, vf⟩ := hbz9
        have hz9 : w.heap.size < w9.heap.size := block_lt_of_cell v0
        clear hb hq
        go_wp2_with fail
        exact redq_endK Try.results73 rfl HZ9.out (Kept.refl _) ((But.of KW1.out).then HB9.out) hRw HR.out.lt (fun x hx => by cases hx) (fun _ => ⟨a, HA.out, by rw [LF.out]; exact HQ9.out⟩)
    · have g1 : ((kd : Int) == 1) = false := ne_int (by omega)
      have hn2 : ¬ (Px.hd (left ts a)).1 = 2 := by rw [hhd]; exact h2
      have hn1 : ¬ ((Px.hd (left ts a)).1 = 1 ∧ Px.isNm (Px.hd (left ts a)).2.1 = true) := by rw [hhd]; exact fun h => h1 h.1
      cases hb1 : Px.isSg [45] (kd, tx, nn) with
      | false =>
        rw [hb1] at SG45
        cases hb2' : Px.isSg [40] (kd, tx, nn) with
        | false =>
          rw [hb2'] at SG40
          have hfc : Px.fac d (left ts a) = (none, left ts a) := by
            cases d with
            | zero => exact Px.fac_end _ hn2 hn1
            | succ e => rw [Px.fac_sg e _ hn2 hn1, hhd, hb1, hb2']; rfl
          rw [hfc] at hp
          injection hp with e1 e2
          subst e1 e2
          clear hhd hw1 hn1 hn2 hfc h1 h2 hb1 hb2'
          go_wp2_with fail
          refine (SG45.out _ (Kept.refl _)).mono ?_
          rintro e w3 ⟨rfl, kk⟩
          have Kw3 : Hid (Kept W1 w3) := ((Kept.refl _)).then kk
          clear kk
          go_wp2_with fail
          refine (SG40.out _ Kw3.out).mono ?_
          rintro e w4 ⟨rfl, kk⟩
          have Kw4 : Hid (Kept W1 w4) := (Kw3.out).then kk
          clear kk
          go_wp2_with fail
          refine (FL.out _ Kw4.out).mono ?_
          rintro e w9 ⟨⟨v, rfl⟩, hb, hq⟩
          have HB9 : Hid (But R W1 w9) := (But.of Kw4.out).then hb
          have HQ9 : Hid (Rq w9 R g cap ts a true a) := hq
          have hbz9 := HBZ.out.but HB9.out (Ne.symm hRz)
          have HZ9 : Hid (Bx w9 w.heap.size 0 0 ⟨#[]⟩ (.slice none 0 0)) := hbz9
          obtain ⟨v0, v1, v2, v3, vf⟩ := hbz9
          have hz9 : w.heap.size < w9.heap.size := block_lt_of_cell v0
          clear hb hq
          go_wp2_with fail
          exact redq_endK Try.results73 rfl HZ9.out (Kept.refl _) ((But.of KW1.out).then HB9.out) hRw HR.out.lt (fun x hx => by cases hx) (fun _ => ⟨a, HA.out, by rw [LF.out]; exact HQ9.out⟩)
        | true =>
          rw [hb2'] at SG40
          cases d with
          | zero =>
            rw [Px.fac_end _ hn2 hn1] at hp
            injection hp with e1 e2
            subst e1 e2
            have h8 : ¬ deep < 8 := by omega
            clear hhd hw1 hn1 hn2 h1 h2 hb1 hb2'
            go_wp2_with fail
            refine (SG45.out _ (Kept.refl _)).mono ?_
            rintro e w3 ⟨rfl, kk⟩
            have Kw3 : Hid (Kept W1 w3) := ((Kept.refl _)).then kk
            clear kk
            go_wp2_with fail
            refine (SG40.out _ Kw3.out).mono ?_
            rintro e w4 ⟨rfl, kk⟩
            have Kw4 : Hid (Kept W1 w4) := (Kw3.out).then kk
            clear kk
            go_wp2_with fail
            refine (FL.out _ Kw4.out).mono ?_
            rintro e w9 ⟨⟨v, rfl⟩, hb, hq⟩
            have HB9 : Hid (But R W1 w9) := (But.of Kw4.out).then hb
            have HQ9 : Hid (Rq w9 R g cap ts a true a) := hq
            have hbz9 := HBZ.out.but HB9.out (Ne.symm hRz)
            have HZ9 : Hid (Bx w9 w.heap.size 0 0 ⟨#[]⟩ (.slice none 0 0)) := hbz9
            obtain ⟨v0, v1, v2, v3, vf⟩ := hbz9
            have hz9 : w.heap.size < w9.heap.size := block_lt_of_cell v0
            clear hb hq
            go_wp2_with fail
            exact redq_endK Try.results73 rfl HZ9.out (Kept.refl _) ((But.of KW1.out).then HB9.out) hRw HR.out.lt (fun x hx => by cases hx) (fun _ => ⟨a, HA.out, by rw [LF.out]; exact HQ9.out⟩)
          | succ e =>
            have hfc := Px.fac_sg e _ hn2 hn1
            rw [hhd, hb1, hb2'] at hfc
            rw [hfc] at hp
            have hp : Px.paren (Px.fac e) (left ts a).tail = (o, m) := hp
            rw [left_tail] at hp
            obtain ⟨o1, m1, hp1⟩ : ∃ o1 m1, Px.expr (Px.fac e) (left ts (a + 1)) = (o1, m1) := ⟨_, _, rfl⟩
            unfold Px.paren at hp
            rw [hp1] at hp
            have HP : Hid _ := hp
            have h8 : deep < 8 := by omega
            have hwd : IntKind.i64.wrap (deep + 1) = deep + 1 := by rw [IntKind.wrap_i64]; omega
            have hal2 : Pp.Alive (left ts (a + 1)) := by
              have := HAL.out.tail (.inl (by rw [hhd]; simp [Px.isSg] at hb2'; rw [hb2'.1]; show (3 : Nat) ≠ 4; decide))
              rwa [left_tail] at this
            have hal3 : Pp.Alive m1 := by
              have := Pp.expr_alive (Pp.fac_alive e) _ hal2
              rwa [hp1] at this
            have hsf : left ts (ts.length - m1.length) = m1 := by
              have := Px.expr_suf (Px.fac_suf e) (left ts (a + 1))
              rw [hp1] at this
              exact suf_left this
            have HM1 : Hid (ts.length - m1.length < ts.length) := alive_lt (by rw [hsf]; exact hal3)
            have HSF : Hid (left ts (ts.length - m1.length) = m1) := hsf
            have HC : Hid (∀ W, Rq W R g cap ts (a + 1) false bad → Calls Try.prog 69 #[.pointer (some ⟨R, 0, none⟩), .int .i64 (deep + 1)] W fun e w' => Redq R g cap ts bad W o1 m1 e w') := fun W hW => HX e rfl R g cap ts (a + 1) bad W hW hal2 HFT.out o1 m1 hp1
            clear hhd hw1 hn1 hn2 h1 h2 hb1 hb2' hfc hp hp1 hal2 hal3 hsf HF HX
            go_wp2_with fail
            refine (SG45.out _ (Kept.refl _)).mono ?_
            rintro e w3 ⟨rfl, kk⟩
            have Kw3 : Hid (Kept W1 w3) := kk
            clear kk
            go_wp2_with fail
            refine (SG40.out _ Kw3.out).mono ?_
            rintro e w4 ⟨rfl, kk⟩
            have hk4 : Kept W1 w4 := Kw3.out.then kk
            have hq3 := HQ1.out.kept hk4
            replace c1 := hq3.c1
            replace z1 := hq3.z 1
            have hR3 := hq3.rlt
            have hq4 := hq3.at' (a + 1) HA.out
            rw [show ((a + 1 : Nat) : Int) = (a : Int) + 1 by omega] at hq4
            have HQ4 : Hid _ := hq4
            have HB4 : Hid (But R W1 (w4.setCell ⟨R, 1, none⟩ (.int .i64 ((a : Int) + 1)))) := (But.of hk4).set _ _
            have HS4 : Hid (W1.heap.size ≤ (w4.setCell ⟨R, 1, none⟩ (.int .i64 ((a : Int) + 1))).heap.size) := HB4.out.size
            clear kk hk4 hq3 hq4 y0 y1 y2 y3 yf
            go_wp2_with fail
            refine (HC.out _ HQ4.out).mono ?_
            rintro e w5 ⟨k5, n5, s5, a5, l5, q5, rfl, H5⟩
            have hB5 : But R W1 w5 := HB4.out.then H5.out.1
            have HB5 : Hid (But R W1 w5) := hB5
            have hbz5 := HBZ.out.but hB5 (Ne.symm hRz)
            have HZ5 : Hid (Bx w5 w.heap.size 0 0 ⟨#[]⟩ (.slice none 0 0)) := hbz5
            have hz5 : w.heap.size < w5.heap.size := hbz5.lt
            have MU : Hid (∃ ok : Bool, (∀ y, o1 = some y → Px.isSg [41] (Px.hd m1) = ok) ∧ (o1 = none → ok = false) ∧ ∀ W, Kept w5 W → Calls Try.prog 60 #[.pointer (some ⟨R, 0, none⟩), .string ⟨#[41]⟩] W fun e w' => (∃ v, e = .returned v) ∧ But R W w' ∧
                (∀ y, o1 = some y → Rz w' R g cap ts (ts.length - m1.length) bad false ok) ∧ (o1 = none → ∃ a', a' < ts.length ∧ Rq w' R g cap ts a' true (ts.length - m1.length))) := by
              show Exists _
              cases o1 with
              | some y =>
                obtain ⟨-, -, -, -, hq⟩ := H5.out.2.1 y rfl
                refine ⟨Px.isSg [41] (Px.hd m1), fun _ _ => rfl, fun h => (by cases h), fun W hW => ?_⟩
                refine (rmust_any (hq.kept hW) HM1.out ⟨#[41]⟩ _ rfl).mono fun e w' h => ⟨h.1, h.2.1, fun _ _ => ?_, fun h => (by cases h)⟩
                have := h.2.2
                rw [HSF.out] at this
                exact this
              | none =>
                obtain ⟨a', ha', hq⟩ := H5.out.2.2 rfl
                refine ⟨false, fun _ h => (by cases h), fun _ => rfl, fun W hW => ?_⟩
                exact (rmust_any (hq.kept hW) ha' ⟨#[41]⟩ false rfl).mono fun e w' h => ⟨h.1, h.2.1, fun _ h => (by cases h), fun _ => ⟨a', ha', h.2.2⟩⟩
            clear hB5 hbz5
            go_wp2_with fail
            obtain ⟨ok, hok1, hok2, hmu⟩ := MU.out
            refine (hmu _ ((Kept.refl _).al _)).mono ?_
            rintro e w6 ⟨⟨v, rfl⟩, hb6, hs6, hn6⟩
            have HB6 : Hid (But R w5 w6) := (But.of ((Kept.refl w5).al _)).then hb6
            have hbz6 := HZ5.out.but HB6.out (Ne.symm hRz)
            have HZ6 : Hid (Bx w6 w.heap.size 0 0 ⟨#[]⟩ (.slice none 0 0)) := hbz6
            have hbe : Bx w6 w5.heap.size k5 n5 s5 (.slice a5 l5 q5) := (Bx.new w5 k5 n5 s5 (.slice a5 l5 q5)).but hb6 (by have := HB5.out.size; omega)
            obtain ⟨v0, v1, v2, v3, vf⟩ := hbz6
            obtain ⟨p0, p1, p2, p3, pf⟩ := hbe
            have hz6 : w.heap.size < w6.heap.size := block_lt_of_cell v0
            have hz6' : w5.heap.size < w6.heap.size := block_lt_of_cell p0
            have HMM : Hid ((∀ y, o1 = some y → Px.isSg [41] (Px.hd m1) = ok) ∧ (o1 = none → ok = false) ∧ (∀ y, o1 = some y → Rz w6 R g cap ts (ts.length - m1.length) bad false ok) ∧ (o1 = none → ∃ a', a' < ts.length ∧ Rq w6 R g cap ts a' true (ts.length - m1.length))) := ⟨hok1, hok2, hs6, hn6⟩
            clear hok1 hok2 hmu hb6 hs6 hn6
            go_wp2_with fail
            obtain ⟨-, hsm, -⟩ := H5.out
            obtain ⟨hok1, hok2, hs6, hn6⟩ := HMM.out
            have hP := HP.out
            have hK : Kept (w6.setCells w.heap.size 0 [.int .i64 k5, .int .i64 n5, .string s5, .slice a5 l5 q5]) (w6.setCells w.heap.size 0 [.int .i64 k5, .int .i64 n5, .string s5, .slice a5 l5 q5]) := Kept.refl _
            refine redq_endK Try.results73 rfl HZ6.out hK ((But.of KW1.out).then (HB5.out.then HB6.out)) hRw HR.out.lt (fun x hx => ?_) (fun hx => ?_)
            · cases o1 with
              | none => simp only [Prod.mk.injEq] at hP; rw [← hP.1] at hx; cases hx
              | some y =>
                have hok := hok1 y rfl
                have hz := hs6 y rfl
                obtain ⟨rfl, rfl, rfl, hT, -⟩ := hsm y rfl
                simp only [hok] at hP
                cases ok with
                | false => simp at hP; rw [← hP.1] at hx; cases hx
                | true =>
                  simp at hP
                  obtain ⟨rfl, rfl⟩ := hP
                  cases hx
                  refine ⟨rfl, rfl, rfl, tree_up hK ((hT.but HB6.out fun j hj => ⟨hj.2, by have := hj.1; have := HS4.out; omega⟩).mono fun j hj => ⟨by have := hj.1; have := HS4.out; omega, by have := hj.2; omega⟩), ?_⟩
                  have hlt : ts.length - m1.tail.length = ts.length - m1.length + 1 := by
                    have h1 := HM1.out
                    have h2 : 0 < m1.length := by
                      rcases Nat.eq_zero_or_pos m1.length with h | h
                      · rw [h] at h1; omega
                      · exact h
                    have h3 : m1.length ≤ ts.length := by have := congrArg List.length HSF.out; rw [left_len] at this; omega
                    rw [List.length_tail]; omega
                  rw [hlt]; exact hz
            · cases o1 with
              | some y =>
                have hok := hok1 y rfl
                have hz := hs6 y rfl
                simp only [hok] at hP
                cases ok with
                | true => simp at hP; rw [← hP.1] at hx; cases hx
                | false =>
                  simp at hP
                  obtain ⟨rfl, rfl⟩ := hP
                  exact ⟨_, HM1.out, hz⟩
              | none =>
                simp only [Prod.mk.injEq] at hP
                obtain ⟨rfl, rfl⟩ := hP
                exact hn6 rfl
      | true =>
        rw [hb1] at SG45
        have hb2' : Px.isSg [40] (kd, tx, nn) = false := by
          simp [Px.isSg] at hb1 ⊢
          rw [hb1.2]; simp
        rw [hb2'] at SG40
        cases d with
        | zero =>
          rw [Px.fac_end _ hn2 hn1] at hp
          injection hp with e1 e2
          subst e1 e2
          have h8 : ¬ deep < 8 := by omega
          clear hhd hw1 hn1 hn2 h1 h2 hb1 hb2'
          go_wp2_with fail
          refine (SG45.out _ (Kept.refl _)).mono ?_
          rintro e w3 ⟨rfl, kk⟩
          have Kw3 : Hid (Kept W1 w3) := ((Kept.refl _)).then kk
          clear kk
          go_wp2_with fail
          refine (SG40.out _ Kw3.out).mono ?_
          rintro e w4 ⟨rfl, kk⟩
          have Kw4 : Hid (Kept W1 w4) := (Kw3.out).then kk
          clear kk
          go_wp2_with fail
          refine (FL.out _ Kw4.out).mono ?_
          rintro e w9 ⟨⟨v, rfl⟩, hb, hq⟩
          have HB9 : Hid (But R W1 w9) := (But.of Kw4.out).then hb
          have HQ9 : Hid (Rq w9 R g cap ts a true a) := hq
          have hbz9 := HBZ.out.but HB9.out (Ne.symm hRz)
          have HZ9 : Hid (Bx w9 w.heap.size 0 0 ⟨#[]⟩ (.slice none 0 0)) := hbz9
          obtain ⟨v0, v1, v2, v3, vf⟩ := hbz9
          have hz9 : w.heap.size < w9.heap.size := block_lt_of_cell v0
          clear hb hq
          go_wp2_with fail
          exact redq_endK Try.results73 rfl HZ9.out (Kept.refl _) ((But.of KW1.out).then HB9.out) hRw HR.out.lt (fun x hx => by cases hx) (fun _ => ⟨a, HA.out, by rw [LF.out]; exact HQ9.out⟩)
        | succ e =>
          have hfc := Px.fac_sg e _ hn2 hn1
          rw [hhd, hb1] at hfc
          rw [hfc] at hp
          have hp : Px.minus (Px.fac e) (left ts a).tail = (o, m) := hp
          rw [left_tail] at hp
          obtain ⟨o1, m1, hp1⟩ : ∃ o1 m1, Px.fac e (left ts (a + 1)) = (o1, m1) := ⟨_, _, rfl⟩
          unfold Px.minus at hp
          rw [hp1] at hp
          have HP : Hid _ := hp
          have h8 : deep < 8 := by omega
          have hwd : IntKind.i64.wrap (deep + 1) = deep + 1 := by rw [IntKind.wrap_i64]; omega
          have hal2 : Pp.Alive (left ts (a + 1)) := by
            have := HAL.out.tail (.inl (by rw [hhd]; simp [Px.isSg] at hb1; rw [hb1.1]; show (3 : Nat) ≠ 4; decide))
            rwa [left_tail] at this
          have HC : Hid (∀ W, Rq W R g cap ts (a + 1) false bad → Calls Try.prog 73 #[.pointer (some ⟨R, 0, none⟩), .int .i64 (deep + 1)] W fun e w' => Redq R g cap ts bad W o1 m1 e w') := fun W hW => HF e rfl R g cap ts (a + 1) bad W hW hal2 HFT.out o1 m1 hp1
          clear hhd hw1 hn1 hn2 h1 h2 hb1 hb2' hfc hp hp1 hal2 HF HX SG40
          go_wp2_with fail
          refine (SG45.out _ (Kept.refl _)).mono ?_
          rintro e w3 ⟨rfl, kk⟩
          have hq3 := HQ1.out.kept kk
          replace c1 := hq3.c1
          replace z1 := hq3.z 1
          have hR3 := hq3.rlt
          have hq4 := hq3.at' (a + 1) HA.out
          rw [show ((a + 1 : Nat) : Int) = (a : Int) + 1 by omega] at hq4
          have HQ4 : Hid _ := hq4
          have HB4 : Hid (But R W1 (w3.setCell ⟨R, 1, none⟩ (.int .i64 ((a : Int) + 1)))) := (But.of kk).set _ _
          have hs4 : W1.heap.size ≤ (w3.setCell ⟨R, 1, none⟩ (.int .i64 ((a : Int) + 1))).heap.size := HB4.out.size
          have HS4 : Hid _ := hs4
          clear kk hq3 hq4 y0 y1 y2 y3 yf hs4
          go_wp2_with fail
          refine (HC.out _ HQ4.out).mono ?_
          rintro e w5 ⟨k5, n5, s5, a5, l5, q5, rfl, H5⟩
          have hB5 : But R W1 w5 := HB4.out.then H5.out.1
          have HB5 : Hid (But R W1 w5) := hB5
          have hbz5 := HBZ.out.but hB5 (Ne.symm hRz)
          have HZ5 : Hid (Bx w5 w.heap.size 0 0 ⟨#[]⟩ (.slice none 0 0)) := hbz5
          obtain ⟨v0, v1, v2, v3, vf⟩ := hbz5
          have hz5 : w.heap.size < w5.heap.size := block_lt_of_cell v0
          clear hB5
          go_wp2_with fail
          obtain ⟨-, hsm, hno⟩ := H5.out
          have hK : Kept (w5.setCells w.heap.size 0 [.int .i64 3, .int .i64 0, .string ⟨#[]⟩, .slice (some ⟨w5.heap.size, 0, none⟩) 1 1]) ((w5.setCells w.heap.size 0 [.int .i64 3, .int .i64 0, .string ⟨#[]⟩, .slice (some ⟨w5.heap.size, 0, none⟩) 1 1]).alloc (.cells #[.int .i64 k5, .int .i64 n5, .string s5, .slice a5 l5 q5] 44)) := (Kept.refl _).al _
          have hP := HP.out
          refine redq_endK Try.results73 rfl HZ5.out hK ((But.of KW1.out).then HB5.out) hRw HR.out.lt (fun x hx => ?_) (fun hx => ?_)
          · cases o1 with
            | none => simp only [Prod.mk.injEq] at hP; rw [← hP.1] at hx; cases hx
            | some y =>
              simp only [Prod.mk.injEq] at hP
              obtain ⟨rfl, rfl⟩ := hP
              cases hx
              obtain ⟨rfl, rfl, rfl, hT, hq⟩ := hsm y rfl
              refine ⟨rfl, rfl, rfl, ?_, hq⟩
              refine ExsD.one (v := .slice a5 l5 q5) ⟨hz5, by simp⟩ (heap_at (by simp) _) (tree_up hK (hT.mono fun j hj => ⟨by have := hj.1; have := HS4.out; omega, hj.2⟩))
          · cases o1 with
            | some y => simp only [Prod.mk.injEq] at hP; rw [← hP.1] at hx; cases hx
            | none =>
              simp only [Prod.mk.injEq] at hP
              obtain ⟨rfl, rfl⟩ := hP
              exact hno rfl
end Go.Proofs.Ytnfkjmafhaecgaa
