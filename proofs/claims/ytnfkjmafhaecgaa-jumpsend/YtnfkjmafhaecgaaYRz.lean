/- Rz -/
import Derived.Test.YtnfkjmafhaecgaaYRy

namespace Go.Proofs.Ytnfkjmafhaecgaa
open Go.RowKit
attribute [local go_sem] run_store_complex
/-- What expr's answer is, of its two sides. -/
theorem two_fin {R : Nat} {w wr W3 w4 w5 : World} {B : Nat} {E y : Ex} {a' a4 : Option Addr} {l q l4 q4 Bn : Nat}
    (hRw : R < w.heap.size) (hwB : w.heap.size < B) (hBr : B < wr.heap.size) (hT : ExsD wr (Dn w wr B) E.of (.slice a' l q)) (hW3 : But R wr W3) (h4 : But R W3 w4) (hT2 : ExsIn w4 W3.heap.size w4.heap.size y.of (.slice a4 l4 q4))
    (h5 : Kept w4 w5 ∧ w4.heap.size ≤ Bn ∧ Bn < w5.heap.size ∧ w5.heap[Bn]? = some (.cells #[.int .i64 E.kind, .int .i64 E.n, .string E.name, .slice a' l q, .int .i64 y.kind, .int .i64 y.n, .string y.name, .slice a4 l4 q4] 44 (0, 0))) :
    ExsD w5 (fun j => w.heap.size < j ∧ j < w5.heap.size) [E, y] (.slice (some ⟨Bn, 0, none⟩) 2 2) := by
  have hB5 : But R wr w5 := (hW3.then h4).then (But.of h5.1)
  have z3 := hW3.size
  have z4 := h4.size
  have z5 := h5.1.size
  refine ExsD.two (v := .slice a' l q) (u := .slice a4 l4 q4) ⟨by omega, by omega⟩ h5.2.2.2 ?_ ?_
  · exact (hT.stays fun j hj => hB5.block j hj.2.1 (by have := hj.1; omega)).mono fun j hj => ⟨hj.1, by have := hj.2.1; omega⟩
  · exact (hT2.stays fun j hj => h5.1.block j hj.2).mono fun j hj => ⟨by have := hj.1; omega, by have := hj.2; omega⟩
set_option maxRecDepth 100000 in
set_option maxHeartbeats 4000000 in
theorem rexpr_of (deep : Int) (f : Px.P) (hs : Px.Suf (Px.sum f)) (hal : ∀ l, Pp.Alive l → Pp.Alive (Px.sum f l).2) (H : QM 70 deep (Px.sum f)) : QM 69 deep (Px.expr f) := by
  intro R g cap ts a bad w h hal0 hfit o m hp
  have HR : Hid (Rq w R g cap ts a false bad) := h
  obtain ⟨o1, m1, hp1⟩ : ∃ o1 m1, Px.sum f (left ts a) = (o1, m1) := ⟨_, _, rfl⟩
  have HP1 : Hid (Px.sum f (left ts a) = (o1, m1)) := hp1
  unfold Px.expr at hp
  rw [hp1] at hp
  have HP : Hid _ := hp
  have HC : Hid (∀ W b bd, Rq W R g cap ts b false bd → Pp.Alive (left ts b) → ∀ o m, Px.sum f (left ts b) = (o, m) → Calls Try.prog 70 #[.pointer (some ⟨R, 0, none⟩), .int .i64 deep] W fun e w' => Redq R g cap ts bd W o m e w') := fun W b bd hW hA o m hp => H R g cap ts b bd W hW hA hfit o m hp
  have HAL : Hid (Pp.Alive (left ts a)) := hal0
  have hRw := h.rlt
  have HGW : Hid (g < w.heap.size) := h.lt
  have HLN : Hid (ts.length ≤ 6001) := h.few
  have hsuf : m1 <:+ left ts a := by have := hs (left ts a); rw [hp1] at this; exact this
  have HL2 : Hid (left ts (ts.length - m1.length) = m1) := suf_left hsuf
  have HAL2 : Hid (Pp.Alive m1) := by have := hal _ hal0; rw [hp1] at this; exact this
  clear h hal0 hfit hp hp1 H hs hal hsuf
  go_enter Try.func69, Try.ntmps69
  go_wp2_with fail
  refine (HC.out (zw w) a bad (HR.out.kept (zw_kept w)) HAL.out o1 m1 HP1.out).mono ?_
  rintro e w1 ⟨k1, n1, s1, a1, l1, q1, rfl, H1⟩
  obtain ⟨wr, hwr0⟩ : ∃ W, w1.alloc (.cells #[.int .i64 k1, .int .i64 n1, .string s1, .slice a1 l1 q1] 44) = W := ⟨_, rfl⟩
  have hkr : Kept w1 wr := by rw [← hwr0]; exact (Kept.refl _).al _
  have HKR : Hid (Kept w1 wr) := hkr
  have hE : Bx wr w1.heap.size k1 n1 s1 (.slice a1 l1 q1) := by rw [← hwr0]; exact Bx.new ..
  have HE : Hid (Bx wr w1.heap.size k1 n1 s1 (.slice a1 l1 q1)) := hE
  have hne : w.heap.size ≠ R := by omega
  have HBr : Hid (But R (zw w) wr) := H1.out.1.then (But.of hkr)
  have hzr := (zw_bx w).but HBr.out hne
  have HZr : Hid (Bx wr w.heap.size 0 0 ⟨#[]⟩ (.slice none 0 0)) := hzr
  have hw1 : w.heap.size < w1.heap.size := ((zw_bx w).but H1.out.1 hne).lt
  have hne1 : w1.heap.size ≠ R := by omega
  have HZW : Hid ((zw w).heap.size = w.heap.size + 1) := zw_size w
  have hB8 := hE.lt
  have hw0 := hzr.lt
  clear hkr hE hzr
  cases o1 with
  | none =>
    obtain ⟨a', ha', hq⟩ := H1.out.2.2 rfl
    have HQ : Hid (Rq wr R g cap ts a' true (ts.length - m1.length)) := hq.kept HKR.out
    have HA' : Hid (a' < ts.length) := ha'
    have hP := HP.out
    simp only [Prod.mk.injEq] at hP
    obtain ⟨rfl, rfl⟩ := hP
    have SG : Hid (∀ W x, Kept wr W → Calls Try.prog 61 #[.pointer (some ⟨R, 0, none⟩), .string x] W fun e w' => e = .returned (.bool false) ∧ Kept W w') := fun W x hW => rsign_any (HQ.out.kept hW) HA'.out x
    clear ha' hq
    go_wp2_with fail
    refine (SG.out _ _ (Kept.refl _)).mono ?_
    rintro e v0 ⟨rfl, kk⟩
    have KV0 : Hid (Kept wr v0) := kk
    clear kk
    go_wp2_with fail
    refine (SG.out _ _ KV0.out).mono ?_
    rintro e v1 ⟨rfl, kk⟩
    have KV1 : Hid (Kept wr v1) := KV0.out.then kk
    obtain ⟨y0, y1, y2, y3, yf⟩ := HZr.out.kept KV1.out
    obtain ⟨x0, x1, x2, x3, xf⟩ := HE.out.kept KV1.out
    have hw02 : w.heap.size < v1.heap.size := block_lt_of_cell y0
    clear kk
    go_wp2_with fail
    exact redq_endK Try.results69 rfl (HZr.out.kept KV1.out) (Kept.refl _) (((But.of (zw_kept w)).then HBr.out).then (But.of KV1.out)) hRw HGW.out (fun x hx => by cases hx) (fun _ => ⟨a', HA'.out, HQ.out.kept KV1.out⟩)
  | some E =>
    obtain ⟨rfl, rfl, rfl, hT, hq⟩ := H1.out.2.1 E rfl
    obtain ⟨b, hbe⟩ : ∃ b, ts.length - m1.length = b := ⟨_, rfl⟩
    rw [hbe] at hq HL2
    have HBE : Hid (ts.length - m1.length = b) := hbe
    have HBL : Hid (b < ts.length) := alive_lt (by rw [HL2.out]; exact HAL2.out)
    have HQ : Hid (Rq wr R g cap ts b false bad) := hq.kept HKR.out
    have HT : Hid (ExsD wr (Dn w wr w1.heap.size) E.of (.slice a1 l1 q1)) := (hT.stays (HKR.out.stays (Nat.le_refl _))).mono fun j hj => ⟨by have := hj.1; have := HZW.out; omega, by have := hj.2; have := HKR.out.size; omega, by have := hj.2; omega⟩
    have SG : Hid (∀ W x, Kept wr W → Calls Try.prog 61 #[.pointer (some ⟨R, 0, none⟩), .string x] W fun e w' => e = .returned (.bool (Px.isSg x.data.toList (Px.hd (left ts b)))) ∧ Kept W w') := fun W x hW => rsign_any (HQ.out.kept hW) HBL.out x
    have HOP := Px.op_one (Px.hd (left ts b))
    have S60 : Hid (∀ W, Kept wr W → Calls Try.prog 61 #[.pointer (some ⟨R, 0, none⟩), .string ⟨#[60]⟩] W fun e w' => e = .returned (.bool (Px.isSg [60] (Px.hd (left ts b)))) ∧ Kept W w') := fun W hW => SG.out W ⟨#[60]⟩ hW
    have S61 : Hid (∀ W, Kept wr W → Calls Try.prog 61 #[.pointer (some ⟨R, 0, none⟩), .string ⟨#[61, 61]⟩] W fun e w' => e = .returned (.bool (Px.isSg [61, 61] (Px.hd (left ts b)))) ∧ Kept W w') := fun W hW => SG.out W ⟨#[61, 61]⟩ hW
    have hbl := HBL.out
    have hfew := HLN.out
    have hwr : IntKind.i64.wrap ((b : Int) + 1) = (b : Int) + 1 := by rw [IntKind.wrap_i64]; omega
    clear SG hT hq hbe
    cases hb0 : Px.isSg [60] (Px.hd (left ts b)) with
    | true =>
      have HSI : Hid (Px.isSg [60] (Px.hd (left ts b)) = true) := hb0
      rw [hb0] at S60 HOP
      have HOPN : Hid (Px.opAt 1 (Px.hd (left ts b)) = some 9) := HOP
      clear HOP hb0
      go_wp2_with fail
      refine (S60.out _ (Kept.refl _)).mono ?_
      rintro e v0 ⟨rfl, kk⟩
      have KV0 : Hid (Kept wr v0) := ((Kept.refl _)).then kk
      clear kk
      have hq2 := HQ.out.kept KV0.out
      have c1 := hq2.c1
      have z1 := hq2.z 1
      have hR2 := hq2.rlt
      have HALB : Hid (Pp.Alive (left ts (b + 1))) := by
        have h0 : Pp.Alive (left ts b) := by rw [HL2.out]; exact HAL2.out
        have := h0.tail (.inl (by rw [Px.isSg_kind HSI.out]; decide))
        rwa [left_tail] at this
      have hq3 := hq2.at' (b + 1) HBL.out
      rw [show ((b + 1 : Nat) : Int) = (b : Int) + 1 by omega] at hq3
      have HQ3 : Hid (Rq (v0.setCell ⟨R, 1, none⟩ (.int .i64 ((b : Int) + 1))) R g cap ts (b + 1) false bad) := hq3
      have HB3 : Hid (But R wr (v0.setCell ⟨R, 1, none⟩ (.int .i64 ((b : Int) + 1)))) := (But.of KV0.out).set _ _
      clear hq2 hq3
      go_wp2_with fail
      clear c1 z1
      have hR3 : R < (v0.setCell ⟨R, 1, none⟩ (.int .i64 ((b : Int) + 1))).heap.size := HQ3.out.rlt
      generalize v0.setCell ⟨R, 1, none⟩ (.int .i64 ((b : Int) + 1)) = W3 at *
      obtain ⟨x0, x1, x2, x3, xf⟩ := HE.out.but HB3.out hne1
      have hB3l : w1.heap.size < W3.heap.size := block_lt_of_cell x0
      obtain ⟨o2, m2, hp2⟩ : ∃ o2 m2, Px.sum f (left ts (b + 1)) = (o2, m2) := ⟨_, _, rfl⟩
      have HP2 : Hid (Px.sum f (left ts (b + 1)) = (o2, m2)) := hp2
      have HC3 : Hid (∀ W, Kept W3 W → Calls Try.prog 70 #[.pointer (some ⟨R, 0, none⟩), .int .i64 deep] W fun e w' => Redq R g cap ts bad W o2 m2 e w') := fun W hW => HC.out W (b + 1) bad (HQ3.out.kept hW) HALB.out o2 m2 hp2
      clear hp2
      go_region_with (first
          | (go_at_call 70; refine (HC3.out _ ((Kept.refl _).dr)).mono ?_; rintro e w4 ⟨k4, n4, s4, a4, l4, q4, rfl, H4⟩; have HB4 : Hid (But R wr w4) := (HB3.out.then (But.of (Kept.refl _).dr)).then H4.out.1; obtain ⟨f0, f1, f2, f3, ff⟩ := HE.out.but HB4.out hne1)
          | (go_at_call 71; refine (binary_any _ _ _ _ _ _ _ _ _ _ _ _ _ _).mono ?_; rintro e w5 ⟨Bn, rfl, H5⟩; have HB5 : Hid (But R wr w5) := HB4.out.then (But.of H5.out.1); obtain ⟨g0, g1, g2, g3, gf⟩ := HZr.out.but HB5.out hne; have xl5 := block_lt_of_cell g0))
      all_goals
        go_wp2_with fail
        have hP := HP.out
        rw [← HL2.out, HOPN.out] at hP
        simp only [left_tail, HP2.out] at hP
        have hK : Kept (w5.setCells w.heap.size 0 [.int .i64 9, .int .i64 0, .string ⟨#[]⟩, .slice (some ⟨Bn, 0, none⟩) 2 2]) (w5.setCells w.heap.size 0 [.int .i64 9, .int .i64 0, .string ⟨#[]⟩, .slice (some ⟨Bn, 0, none⟩) 2 2]) := Kept.refl _
        refine redq_endK Try.results69 rfl (HZr.out.but HB5.out hne) hK (((But.of (zw_kept w)).then HBr.out).then HB5.out) hRw HGW.out (fun x hx => ?_) (fun hx => ?_)
        · cases o2 with
          | none => simp only [Prod.mk.injEq] at hP; rw [← hP.1] at hx; cases hx
          | some y =>
            simp only [Prod.mk.injEq] at hP
            obtain ⟨rfl, rfl⟩ := hP
            cases hx
            obtain ⟨rfl, rfl, rfl, hT2, hq⟩ := H4.out.2.1 y rfl
            exact ⟨rfl, rfl, rfl, tree_up hK (two_fin hRw hw1 hB8 HT.out (HB3.out.then (But.of (Kept.refl _).dr)) H4.out.1 hT2 H5.out), hq.kept H5.out.1⟩
        · cases o2 with
          | some y => simp only [Prod.mk.injEq] at hP; rw [← hP.1] at hx; cases hx
          | none =>
            simp only [Prod.mk.injEq] at hP
            obtain ⟨rfl, rfl⟩ := hP
            obtain ⟨a', ha', hq⟩ := H4.out.2.2 rfl
            exact ⟨a', ha', hq.kept H5.out.1⟩
    | false =>
      rw [hb0] at S60 HOP
      clear hb0
      cases hb1 : Px.isSg [61, 61] (Px.hd (left ts b)) with
      | true =>
        have HSI : Hid (Px.isSg [61, 61] (Px.hd (left ts b)) = true) := hb1
        rw [hb1] at S61 HOP
        have HOPN : Hid (Px.opAt 1 (Px.hd (left ts b)) = some 10) := HOP
        clear HOP hb1
        go_wp2_with fail
        refine (S60.out _ (Kept.refl _)).mono ?_
        rintro e v0 ⟨rfl, kk⟩
        have KV0 : Hid (Kept wr v0) := ((Kept.refl _)).then kk
        clear kk
        go_wp2_with fail
        refine (S61.out _ KV0.out).mono ?_
        rintro e v1 ⟨rfl, kk⟩
        have KV1 : Hid (Kept wr v1) := (KV0.out).then kk
        clear kk
        have hq2 := HQ.out.kept KV1.out
        have c1 := hq2.c1
        have z1 := hq2.z 1
        have hR2 := hq2.rlt
        have HALB : Hid (Pp.Alive (left ts (b + 1))) := by
          have h0 : Pp.Alive (left ts b) := by rw [HL2.out]; exact HAL2.out
          have := h0.tail (.inl (by rw [Px.isSg_kind HSI.out]; decide))
          rwa [left_tail] at this
        have hq3 := hq2.at' (b + 1) HBL.out
        rw [show ((b + 1 : Nat) : Int) = (b : Int) + 1 by omega] at hq3
        have HQ3 : Hid (Rq (v1.setCell ⟨R, 1, none⟩ (.int .i64 ((b : Int) + 1))) R g cap ts (b + 1) false bad) := hq3
        have HB3 : Hid (But R wr (v1.setCell ⟨R, 1, none⟩ (.int .i64 ((b : Int) + 1)))) := (But.of KV1.out).set _ _
        clear hq2 hq3
        go_wp2_with fail
        clear c1 z1
        have hR3 : R < (v1.setCell ⟨R, 1, none⟩ (.int .i64 ((b : Int) + 1))).heap.size := HQ3.out.rlt
        generalize v1.setCell ⟨R, 1, none⟩ (.int .i64 ((b : Int) + 1)) = W3 at *
        obtain ⟨x0, x1, x2, x3, xf⟩ := HE.out.but HB3.out hne1
        have hB3l : w1.heap.size < W3.heap.size := block_lt_of_cell x0
        obtain ⟨o2, m2, hp2⟩ : ∃ o2 m2, Px.sum f (left ts (b + 1)) = (o2, m2) := ⟨_, _, rfl⟩
        have HP2 : Hid (Px.sum f (left ts (b + 1)) = (o2, m2)) := hp2
        have HC3 : Hid (∀ W, Kept W3 W → Calls Try.prog 70 #[.pointer (some ⟨R, 0, none⟩), .int .i64 deep] W fun e w' => Redq R g cap ts bad W o2 m2 e w') := fun W hW => HC.out W (b + 1) bad (HQ3.out.kept hW) HALB.out o2 m2 hp2
        clear hp2
        go_region_with (first
            | (go_at_call 70; refine (HC3.out _ ((Kept.refl _).dr)).mono ?_; rintro e w4 ⟨k4, n4, s4, a4, l4, q4, rfl, H4⟩; have HB4 : Hid (But R wr w4) := (HB3.out.then (But.of (Kept.refl _).dr)).then H4.out.1; obtain ⟨f0, f1, f2, f3, ff⟩ := HE.out.but HB4.out hne1)
            | (go_at_call 71; refine (binary_any _ _ _ _ _ _ _ _ _ _ _ _ _ _).mono ?_; rintro e w5 ⟨Bn, rfl, H5⟩; have HB5 : Hid (But R wr w5) := HB4.out.then (But.of H5.out.1); obtain ⟨g0, g1, g2, g3, gf⟩ := HZr.out.but HB5.out hne; have xl5 := block_lt_of_cell g0))
        all_goals
          go_wp2_with fail
          have hP := HP.out
          rw [← HL2.out, HOPN.out] at hP
          simp only [left_tail, HP2.out] at hP
          have hK : Kept (w5.setCells w.heap.size 0 [.int .i64 10, .int .i64 0, .string ⟨#[]⟩, .slice (some ⟨Bn, 0, none⟩) 2 2]) (w5.setCells w.heap.size 0 [.int .i64 10, .int .i64 0, .string ⟨#[]⟩, .slice (some ⟨Bn, 0, none⟩) 2 2]) := Kept.refl _
          refine redq_endK Try.results69 rfl (HZr.out.but HB5.out hne) hK (((But.of (zw_kept w)).then HBr.out).then HB5.out) hRw HGW.out (fun x hx => ?_) (fun hx => ?_)
          · cases o2 with
            | none => simp only [Prod.mk.injEq] at hP; rw [← hP.1] at hx; cases hx
            | some y =>
              simp only [Prod.mk.injEq] at hP
              obtain ⟨rfl, rfl⟩ := hP
              cases hx
              obtain ⟨rfl, rfl, rfl, hT2, hq⟩ := H4.out.2.1 y rfl
              exact ⟨rfl, rfl, rfl, tree_up hK (two_fin hRw hw1 hB8 HT.out (HB3.out.then (But.of (Kept.refl _).dr)) H4.out.1 hT2 H5.out), hq.kept H5.out.1⟩
          · cases o2 with
            | some y => simp only [Prod.mk.injEq] at hP; rw [← hP.1] at hx; cases hx
            | none =>
              simp only [Prod.mk.injEq] at hP
              obtain ⟨rfl, rfl⟩ := hP
              obtain ⟨a', ha', hq⟩ := H4.out.2.2 rfl
              exact ⟨a', ha', hq.kept H5.out.1⟩
      | false =>
        rw [hb1] at S61 HOP
        clear hb1
        have HOPN : Hid (Px.opAt 1 (Px.hd (left ts b)) = none) := HOP
        clear HOP
        go_wp2_with fail
        refine (S60.out _ (Kept.refl _)).mono ?_
        rintro e v0 ⟨rfl, kk⟩
        have KV0 : Hid (Kept wr v0) := kk
        clear kk
        go_wp2_with fail
        refine (S61.out _ KV0.out).mono ?_
        rintro e v1 ⟨rfl, kk⟩
        have KV1 : Hid (Kept wr v1) := KV0.out.then kk
        obtain ⟨y0, y1, y2, y3, yf⟩ := HZr.out.kept KV1.out
        obtain ⟨x0, x1, x2, x3, xf⟩ := HE.out.kept KV1.out
        have hw02 : w.heap.size < v1.heap.size := block_lt_of_cell y0
        clear kk
        go_wp2_with fail
        have hP := HP.out
        rw [← HL2.out, HOPN.out] at hP
        simp only [Prod.mk.injEq] at hP
        obtain ⟨rfl, rfl⟩ := hP
        have hK : Kept (v1.setCells w.heap.size 0 [.int .i64 E.kind, .int .i64 E.n, .string E.name, .slice a1 l1 q1]) (v1.setCells w.heap.size 0 [.int .i64 E.kind, .int .i64 E.n, .string E.name, .slice a1 l1 q1]) := Kept.refl _
        refine redq_endK Try.results69 rfl (HZr.out.kept KV1.out) hK (((But.of (zw_kept w)).then HBr.out).then (But.of KV1.out)) hRw HGW.out (fun x hx => ?_) (fun hx => by cases hx)
        cases hx
        refine ⟨rfl, rfl, rfl, tree_up hK ((HT.out.stays fun j hj => KV1.out.block j hj.2.1).mono fun j hj => ⟨hj.1, Nat.lt_of_lt_of_le hj.2.1 KV1.out.size⟩), ?_⟩
        have : ts.length - (left ts b).length = b := by rw [left_len]; have := HBL.out; omega
        rw [this]; exact HQ.out.kept KV1.out
theorem rex_all : ∀ (d : Nat) (deep : Int), deep + d = 8 → 0 ≤ deep → QM 73 deep (Px.fac d) ∧ QM 69 deep (Px.expr (Px.fac d)) := by
  have up : ∀ (d : Nat) (deep : Int), QM 73 deep (Px.fac d) → QM 73 deep (Px.fac d) ∧ QM 69 deep (Px.expr (Px.fac d)) := fun d deep hf =>
    ⟨hf, rexpr_of deep (Px.fac d) (Px.row_suf (Px.row_suf (Px.fac_suf d))) (Pp.row_alive (Pp.row_alive (Pp.fac_alive d))) (rsum_row deep (Px.row 3 (Px.fac d)) (Px.row_suf (Px.fac_suf d)) (Pp.row_alive (Pp.fac_alive d)) (rterm_row deep (Px.fac d) (Px.fac_suf d) (Pp.fac_alive d) hf))⟩
  intro d
  induction d with
  | zero => exact fun deep h h0 => up 0 deep (rfactor_of deep 0 h h0 (fun e he => by cases he) (fun e he => by cases he))
  | succ d ih =>
    intro deep h h0
    obtain ⟨h1, h2⟩ := ih (deep + 1) (by omega) (by omega)
    exact up (d + 1) deep (rfactor_of deep (d + 1) h h0 (fun e he => by cases he; exact h1) (fun e he => by cases he; exact h2))
theorem rread : QM 69 0 Px.read := (rex_all 8 0 (by omega) (by omega)).2
set_option maxRecDepth 100000 in
set_option maxHeartbeats 1000000 in
theorem rwhole_any {R g cap : Nat} {ts : List Lx.Tk} {a bad : Nat} {w : World} (h : Rq w R g cap ts a false bad) (hal : Pp.Alive (left ts a)) (hfit : FitT ts) (s : ByteArray) (o : Option Ex) (m : List Lx.Core) (hp : Px.read (left ts a) = (o, m)) :
    Calls Try.prog 68 #[.pointer (some ⟨R, 0, none⟩), .string s] w fun e w' => Redq R g cap ts bad w o m e w' := by
  have HC : Hid _ := rread R g cap ts a bad (zw w) (h.kept (zw_kept w)) hal hfit o m hp
  have c2 := h.c2
  have hRw := h.rlt
  have HGW : Hid (g < w.heap.size) := h.lt
  have hne : w.heap.size ≠ R := by omega
  clear h hal hfit hp
  go_enter Try.func68, Try.ntmps68
  go_wp2_with fail
  refine Calls.mono HC.out ?_
  rintro e w1 ⟨k1, n1, s1, a1, l1, q1, rfl, H1⟩
  have hz := (zw_bx w).but H1.out.1 hne
  have HZ : Hid (Bx w1 w.heap.size 0 0 ⟨#[]⟩ (.slice none 0 0)) := hz
  have hw1 := hz.lt
  obtain ⟨y0, y1, y2, y3, yf⟩ := hz
  go_wp2_with fail
  have hz2 := HZ.out.set k1 n1 s1 (.slice a1 l1 q1)
  obtain ⟨hB, hsm, hno⟩ := H1.out
  have hB2 : But R w (w1.setCells w.heap.size 0 [.int .i64 k1, .int .i64 n1, .string s1, .slice a1 l1 q1]) := ((But.of (zw_kept w)).then hB).sets (Nat.le_refl _) _ _
  have hgn : w.heap.size ≠ g := by have := HGW.out; omega
  have up : ∀ a fl b, Rq w1 R g cap ts a fl b → Rq (w1.setCells w.heap.size 0 [.int .i64 k1, .int .i64 n1, .string s1, .slice a1 l1 q1]) R g cap ts a fl b := fun a fl b h => h.sets hne hgn _ _
  have hT0 : ∀ x, o = some x → ExsD (w1.setCells w.heap.size 0 [.int .i64 k1, .int .i64 n1, .string s1, .slice a1 l1 q1]) (fun k => w.heap.size < k ∧ k < (w1.setCells w.heap.size 0 [.int .i64 k1, .int .i64 n1, .string s1, .slice a1 l1 q1]).heap.size) x.of (.slice a1 l1 q1) := fun x hx => tree_up (Kept.refl _) (up_tree (hsm x hx).2.2.2.1)
  have hq0 : ∀ x, o = some x → Rq (w1.setCells w.heap.size 0 [.int .i64 k1, .int .i64 n1, .string s1, .slice a1 l1 q1]) R g cap ts (ts.length - m.length) false bad := fun x hx => up _ _ _ (hsm x hx).2.2.2.2
  have hn0 : o = none → ∃ a', a' < ts.length ∧ Rq (w1.setCells w.heap.size 0 [.int .i64 k1, .int .i64 n1, .string s1, .slice a1 l1 q1]) R g cap ts a' true (ts.length - m.length) := fun hx => by
    obtain ⟨a', h1, h2⟩ := hno hx
    exact ⟨a', h1, up _ _ _ h2⟩
  have hs0 : ∀ x, o = some x → k1 = x.kind ∧ n1 = x.n ∧ s1 = x.name := fun x hx => ⟨(hsm x hx).1, (hsm x hx).2.1, (hsm x hx).2.2.1⟩
  generalize hWW : w1.setCells w.heap.size 0 [.int .i64 k1, .int .i64 n1, .string s1, .slice a1 l1 q1] = W2 at *
  have hWW' : (((w1.setCell ⟨w.heap.size, 0, none⟩ (.int .i64 k1)).setCell ⟨w.heap.size, 1, none⟩ (.int .i64 n1)).setCell ⟨w.heap.size, 2, none⟩ (.string s1)).setCell ⟨w.heap.size, 3, none⟩ (.slice a1 l1 q1) = W2 := hWW
  rw [hWW']
  have hK : Kept (W2.setCells w.heap.size 0 [.int .i64 k1, .int .i64 n1, .string s1, .slice a1 l1 q1]) (W2.setCells w.heap.size 0 [.int .i64 k1, .int .i64 n1, .string s1, .slice a1 l1 q1]) := Kept.refl _
  exact redq_endK Try.results68 rfl hz2 hK hB2 hRw HGW.out (fun x hx => ⟨(hs0 x hx).1, (hs0 x hx).2.1, (hs0 x hx).2.2, tree_up hK (hT0 x hx), hq0 x hx⟩) hn0
set_option maxRecDepth 100000 in
set_option maxHeartbeats 1000000 in
theorem rwhole_no {R g cap : Nat} {ts : List Lx.Tk} {a bad : Nat} {w : World} (h : Rq w R g cap ts a true bad) (s : ByteArray) :
    Calls Try.prog 68 #[.pointer (some ⟨R, 0, none⟩), .string s] w fun e w' => e = .returned (.agg #[.int .i64 0, .int .i64 0, .string ⟨#[]⟩, .slice none 0 0]) ∧ Kept w w' := by
  have c2 := h.c2
  have hRw := h.rlt
  clear h
  go_enter Try.func68, Try.ntmps68
  go_wp2_with fail
  exact bodyPost_ret (ret_ex Try.results68 _ rfl (zw_bx w)) rfl ⟨rfl, zw_kept w⟩
end Go.Proofs.Ytnfkjmafhaecgaa
