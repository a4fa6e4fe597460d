/- What text.write, text.Print and text.Right answer. Good programs may be written; those of the maker are printed as they are shown. What law6.known answers: chapter 6's example. -/
import Derived.Test.YtkobdephobaopaaGreatDoorXA
import Derived.Test.YtkobdephobaopaaGreatDoorWS
import Derived.Test.YtkobdephobaopaaGreatDoorPo
import Derived.Test.YtkobdephobaopaaGreatDoorSmA
import Derived.Test.YtkobdephobaopaaGreatDoorKn5

namespace Go.Proofs.YtkobdephobaopaaGreatDoor
open Go.RowKit
open Ps.Pu (Wr wS wB ln words dwords wD wT wP printP)
attribute [local go_sem] run_store_complex

/-- A program that may be written: nothing in it is too long. -/
structure WrP (d : List Dc) (t : List (List St)) : Prop where
  ds : ∀ x ∈ d, x.name.size ≤ 12 ∧ -9223372036854775808 ≤ x.n ∧ x.n ≤ 9223372036854775807
  dl : d.length ≤ 100
  ts : ∀ b ∈ t, (∀ s ∈ b, Wr s) ∧ St.sizes b ≤ 7000
  tl : t.length ≤ 100
theorem dwords_len {x : Dc} (h : x.name.size ≤ 12 ∧ -9223372036854775808 ≤ x.n ∧ x.n ≤ 9223372036854775807) : (dwords x).length ≤ 45 := by
  have e1 : x.name.data.toList.length = x.name.size := Array.length_toList
  have e4 := Lib.itoa_length_le x.n h.2.1 h.2.2
  have := h.1
  unfold Ps.Pu.dwords
  repeat' split
  all_goals simp only [List.length_append, List.length_cons, List.length_nil]
  all_goals omega

set_option maxRecDepth 100000 in
set_option maxHeartbeats 4000000 in
theorem twrite_any (d : List Dc) (t : List (List St)) (w : World) (dv tv : Value) (hd : DsIn w 0 w.heap.size d dv) (ht : TsIn w 0 w.heap.size t tv) (hW : WrP d t) (hE : Env w) :
    Calls Tryz.prog 40 #[.agg #[dv, tv]] w fun e w' => Wrote w.heap.size w (wP d t) e w' ∧ (wP d t).length ≤ 100000000000 := by
  have HD : Hid _ := hd
  have HTT : Hid _ := ht
  obtain ⟨ad, qd, rfl, d1, d2, d3⟩ := hd.open
  obtain ⟨at', qt, rfl, t1, t2, t3⟩ := ht.open
  obtain ⟨B, hBB⟩ : ∃ B, w.heap.size = B := ⟨_, rfl⟩
  have hB : B ≤ w.heap.size := by omega
  have HEE : Hid (EnvB B w) := by rw [← hBB]; exact EnvB.of hE
  have HWP : Hid (WrP d t) := hW
  have hdl := hW.dl
  have htl := hW.tl
  obtain ⟨W1, hW1⟩ : ∃ W1, w.alloc (.cells #[.slice ad d.length qd, .slice at' t.length qt] 27) = W1 := ⟨_, rfl⟩
  have KW : Hid (Kept w W1) := by rw [← hW1]; exact (Kept.refl _).al _
  have HBX : Hid (W1.heap[w.heap.size]? = some (.cells #[.slice ad d.length qd, .slice at' t.length qt] 27)) := by rw [← hW1]; exact heap_alloc_new _ _
  have HBB : Hid (w.heap.size = B) := hBB
  have HD : Hid (DsIn w 0 B d (.slice ad d.length qd)) := by rw [← hBB]; exact hd
  have HTT : Hid (TsIn w 0 B t (.slice at' t.length qt)) := by rw [← hBB]; exact ht
  have HW1 : Hid _ := hW1
  have c00 : W1.cell? ⟨w.heap.size, 0, none⟩ = some (.slice ad d.length qd) := row_cell HBX.out 0
  have c01 : W1.cell? ⟨w.heap.size, 1, none⟩ = some (.slice at' t.length qt) := row_cell HBX.out 1
  have hlt1 := row_lt HBX.out
  have HWK : Hid (Wk B w W1) := Wk.of KW.out hB
  rw [hBB] at HBX c00 c01 hlt1 ⊢
  clear hd ht hW hE hBB hW1
  go_enter Tryz.func40, Tryz.ntmps40
  go_wp2_with fail
  rw [show _ = W1 from HW1.out, HBB.out]
  go_wp2_with fail
  go_loopw [3, 11] (fun v i wr => ∃ (x : List UInt8) (a : Option Addr) (cap k : Nat), v = .slice a x.length cap ∧ i = .int .i64 (k : Int) ∧ k ≤ d.length ∧ x.length ≤ 46 * k ∧ Hid (wD (d.drop k) x = wD d [] ∧ Txt wr B (.slice a x.length cap) x ∧ Wk B w wr ∧ wr.heap[B]? = some (.cells #[.slice ad d.length qd, .slice at' t.length qt] 27))) (fun _ i _ => d.length - (intOf i).toNat)
  case atStart => exact ⟨[], none, 0, 0, rfl, rfl, Nat.zero_le _, Nat.le_refl _, ⟨rfl, Txt.nil _ _, HWK.out, HBX.out⟩⟩
  case round =>
    obtain ⟨x, a, cap, k, rfl, rfl, hk, hxl, HI⟩ := hrel
    have hz : B ≤ wr.heap.size := Nat.le_trans hB HI.out.2.2.1.bel.size
    by_cases hlt : k < d.length
    · have hki : (k : Int) < (d.length : Int) := by omega
      obtain ⟨b, o, rfl, _, hb, _, c0, c1, c2, c3⟩ := HD.out.item (Stays.of_below HI.out.2.2.1.bel (Nat.le_refl _)) k hlt
      have hzb : b < wr.heap.size := by omega
      have hwr : IntKind.i64.wrap ((k : Int) + 1) = (k : Int) + 1 := by rw [IntKind.wrap_i64]; omega
      obtain ⟨y, hy⟩ : ∃ y, d[k] = y := ⟨_, rfl⟩
      have HY : Hid (y.name.size ≤ 12 ∧ -9223372036854775808 ≤ y.n ∧ y.n ≤ 9223372036854775807) := by rw [← hy]; exact HWP.out.ds _ (List.getElem_mem hlt)
      rw [hy] at c0 c1 c2 c3
      obtain ⟨x1, hx1⟩ : ∃ x1, ln x 0 (dwords y) = x1 := ⟨_, rfl⟩
      have hl1 : x1.length ≤ 46 * (k + 1) := by rw [← hx1, Ps.Pu.ln_len]; have := dwords_len HY.out; omega
      have HX1 : Hid (wD (d.drop (k + 1)) x1 = wD d []) := by
        show _ = _
        rw [← HI.out.1, List.drop_eq_getElem_cons hlt, hy, ← hx1]; rfl
      have HDC : Hid (∀ W, Kept wr W → Calls Tryz.prog 66 #[.agg #[.int .i64 y.kind, .string y.name, .int .i64 y.n, .complex .f64 y.re y.im]] W fun e w' => e = .returned (.string (Px.ba (dwords y))) ∧ Kept W w') :=
        fun W hW => tdecl_any y W HY.out.1 HY.out.2.1 HY.out.2.2 (HEE.out W (HI.out.2.2.1.bel.trans (hW.mono hz)))
      have HLN : Hid (∀ W, Wk B w W → ∀ a cap, Txt W B (.slice a x.length cap) x → Calls Tryz.prog 65 #[.slice a x.length cap, .int .i64 0, .string (Px.ba (dwords y))] W fun e w' => Wrote B W x1 e w') :=
        fun W hW a cap hT => line_any x 0 (Px.ba (dwords y)) B W _ hT (Nat.le_trans hB hW.bel.size) (by omega) (by rw [Px.ba_size]; have := dwords_len HY.out; omega) x1 (by rw [← hx1]; rfl)
      clear hx1 hy
      generalize Px.ba (dwords y) = Y at *
      go_wp2_with fail
      refine (HDC.out _ ((Kept.refl _).al _)).mono ?_
      rintro e w1 ⟨rfl, k1⟩
      have HK1 : Hid (Kept wr w1) := ((Kept.refl wr).al _).then k1
      clear k1
      go_wp2_with fail
      have HK2 : Hid (Wk B w w1) := HI.out.2.2.1.then (Wk.of HK1.out hz)
      refine (HLN.out _ HK2.out _ _ (HI.out.2.1.kept HK1.out)).mono ?_
      rintro e w2 ⟨a2, cap2, rfl, tx, k2⟩
      have HI1 : Hid (wD (d.drop (k + 1)) x1 = wD d [] ∧ Txt w2 B (.slice a2 x1.length cap2) x1 ∧ Wk B w w2 ∧ w2.heap[B]? = some (.cells #[.slice (some ⟨b, o, none⟩) d.length qd, .slice at' t.length qt] 27)) := ⟨HX1.out, tx, HK2.out.then k2, k2.blk (by decide) ((HK1.out.block _ (row_lt HI.out.2.2.2)).trans HI.out.2.2.2)⟩
      clear tx k2
      go_wp2_with fail
      go_roundw
      case rel => exact ⟨x1, a2, cap2, k + 1, rfl, by go_num, by omega, hl1, HI1⟩
      case measure => simp [intOf]; omega
    · have hki : ¬ (k : Int) < (d.length : Int) := by omega
      have HX0 : Hid (x = wD d []) := by show _ = _; rw [← HI.out.1, List.drop_eq_nil_of_le (by omega)]; rfl
      have s1 : wr.cell? ⟨B, 1, none⟩ = some (.slice at' t.length qt) := row_cell HI.out.2.2.2 1
      have hzB := row_lt HI.out.2.2.2
      have hx0 : x.length ≤ 4600 := by omega
      have HT0 : Hid (Txt wr B (.slice a x.length cap) x ∧ Wk B w wr) := ⟨HI.out.2.1, HI.out.2.2.1⟩
      obtain ⟨w5, hw5⟩ : ∃ W, W = wr := ⟨_, rfl⟩
      subst hw5
      have HWT : Hid (wT t x = wP d t) := by show _ = _; rw [HX0.out]; rfl
      clear hki HI hxl hk HX0 c00 c01
      go_wp2_with fail
      go_loopw [3, 23] (fun v i wr => ∃ (y : List UInt8) (a : Option Addr) (cap k : Nat), v = .slice a y.length cap ∧ i = .int .i64 (k : Int) ∧ k ≤ t.length ∧ y.length ≤ 4600 + 476000100 * k ∧ Hid (wT (t.drop k) y = wP d t ∧ Txt wr B (.slice a y.length cap) y ∧ Wk B w wr)) (fun _ i _ => t.length - (intOf i).toNat)
      case atStart => exact ⟨x, a, cap, 0, rfl, rfl, Nat.zero_le _, hx0, ⟨HWT.out, HT0.out.1, HT0.out.2⟩⟩
      case round =>
        obtain ⟨y, a, cap, k, rfl, rfl, hk, hyl, HI⟩ := hrel
        have hz : B ≤ wr.heap.size := Nat.le_trans hB HI.out.2.2.bel.size
        by_cases hlt : k < t.length
        · have hki : (k : Int) < (t.length : Int) := by omega
          obtain ⟨b, o, a3, n3, q3, rfl, _, hb, _, c0, hst⟩ := HTT.out.item (Stays.of_below HI.out.2.2.bel (Nat.le_refl _)) k hlt
          have hzb : b < wr.heap.size := by omega
          have hwr : IntKind.i64.wrap ((k : Int) + 1) = (k : Int) + 1 := by rw [IntKind.wrap_i64]; omega
          have HTK : Hid _ := HWP.out.ts _ (List.getElem_mem hlt)
          obtain ⟨y1, hy1⟩ : ∃ y1, ln y 0 [103, 111, 32, 123] = y1 := ⟨_, rfl⟩
          have hl1 : y1.length ≤ y.length + 5 := by rw [← hy1, Ps.Pu.ln_len]; show _ + 0 + 4 + 1 ≤ _; omega
          obtain ⟨y2, hy2⟩ : ∃ y2, wB t[k] 1 y1 = y2 := ⟨_, rfl⟩
          have hl2 : y2.length ≤ y1.length + 476000000 := by
            have := Ps.Pu.wB_len (M := 20000) t[k] HTK.out.1 1 y1 (by have := HTK.out.2; omega)
            have := HTK.out.2
            rw [← hy2]; omega
          obtain ⟨y3, hy3⟩ : ∃ y3, ln y2 0 [125] = y3 := ⟨_, rfl⟩
          have hl3 : y3.length ≤ y2.length + 2 := by rw [← hy3, Ps.Pu.ln_len]; show _ + 0 + 1 + 1 ≤ _; omega
          have HX1 : Hid (wT (t.drop (k + 1)) y3 = wP d t) := by
            show _ = _
            rw [← HI.out.1, List.drop_eq_getElem_cons hlt, ← hy3, ← hy2, ← hy1]; rfl
          have HL1 : Hid (∀ W, Wk B w W → ∀ a cap, Txt W B (.slice a y.length cap) y → Calls Tryz.prog 65 #[.slice a y.length cap, .int .i64 0, .string ⟨#[103, 111, 32, 123]⟩] W fun e w' => Wrote B W y1 e w') :=
            fun W hW a cap hT => line_any y 0 ⟨#[103, 111, 32, 123]⟩ B W _ hT (Nat.le_trans hB hW.bel.size) (by omega) (by show _ + 4 ≤ _; omega) y1 (by rw [← hy1]; rfl)
          have HL2 : Hid (∀ W, Wk B wr W → ∀ a cap, Txt W B (.slice a y1.length cap) y1 → Calls Tryz.prog 67 #[.slice a y1.length cap, .int .i64 1, .slice a3 n3 q3] W fun e w' => Wrote B W y2 e w') :=
            fun W hW a cap hT => by
              have := tblock_any t[k] y1 1 B W _ (.slice a3 n3 q3) hT (hst.stays (Stays.of_below hW.bel (Nat.le_refl _))) (Nat.le_trans hz hW.bel.size) HTK.out.1 (by have := HTK.out.2; omega) (by have := HTK.out.2; omega) (HEE.out.on (HI.out.2.2.bel.trans hW.bel))
              rw [hy2] at this
              exact this
          have HL3 : Hid (∀ W, Wk B w W → ∀ a cap, Txt W B (.slice a y2.length cap) y2 → Calls Tryz.prog 65 #[.slice a y2.length cap, .int .i64 0, .string ⟨#[125]⟩] W fun e w' => Wrote B W y3 e w') :=
            fun W hW a cap hT => line_any y2 0 ⟨#[125]⟩ B W _ hT (Nat.le_trans hB hW.bel.size) (by omega) (by show _ + 1 ≤ _; omega) y3 (by rw [← hy3]; rfl)
          clear hy1 hy2 hy3
          go_wp2_with fail
          refine (HL1.out _ HI.out.2.2 _ _ HI.out.2.1).mono ?_
          rintro e w1 ⟨a4, cap4, rfl, t4, k4⟩
          have HT1 : Hid (Txt w1 B (.slice a4 y1.length cap4) y1 ∧ Wk B wr w1) := ⟨t4, k4⟩
          clear t4 k4
          go_wp2_with fail
          refine (HL2.out _ HT1.out.2 _ _ HT1.out.1).mono ?_
          rintro e w2 ⟨a5, cap5, rfl, t5, k5⟩
          have HT2 : Hid (Txt w2 B (.slice a5 y2.length cap5) y2 ∧ Wk B w w2) := ⟨t5, (HI.out.2.2.then HT1.out.2).then k5⟩
          clear t5 k5
          go_wp2_with fail
          refine (HL3.out _ HT2.out.2 _ _ HT2.out.1).mono ?_
          rintro e w3 ⟨a6, cap6, rfl, t6, k6⟩
          have HI1 : Hid (wT (t.drop (k + 1)) y3 = wP d t ∧ Txt w3 B (.slice a6 y3.length cap6) y3 ∧ Wk B w w3) := ⟨HX1.out, t6, HT2.out.2.then k6⟩
          clear t6 k6
          have hl4 : y3.length ≤ 4600 + 476000100 * (k + 1) := by omega
          go_wp2_with fail
          go_roundw
          case rel => exact ⟨y3, a6, cap6, k + 1, rfl, by go_num, by omega, hl4, HI1⟩
          case measure => simp [intOf]; omega
        · have hki : ¬ (k : Int) < (t.length : Int) := by omega
          have HX0 : Hid (wP d t = y) := by show _ = _; rw [← HI.out.1, List.drop_eq_nil_of_le (by omega)]; rfl
          have hfin : y.length ≤ 100000000000 := by omega
          go_wp2_with fail
          go_ret
          rw [HX0.out]
          exact ⟨⟨a, cap, rfl, HI.out.2.1, HI.out.2.2⟩, hfin⟩

theorem printP_some {d d' : List Dc} {t t' : List (List St)} {q : Nat} (h : Pp.out (Px.ba (wP d t)) = (some (d', t'), q)) : printP d t = if (Dc.sames d' d && sameTs t' t) = true then wP d t else [] := by
  unfold Ps.Pu.printP; rw [h]
theorem printP_out {d : List Dc} {t : List (List St)} {q : Nat} (h : Pp.out (Px.ba (wP d t)) = (none, q)) : printP d t = [] := by
  unfold Ps.Pu.printP; rw [h]

set_option maxRecDepth 100000 in
set_option maxHeartbeats 4000000 in
theorem tprint_any (d : List Dc) (t : List (List St)) (w : World) (dv tv : Value) (hd : DsIn w 0 w.heap.size d dv) (ht : TsIn w 0 w.heap.size t tv) (hW : WrP d t) (hE : Env w) :
    Calls Tryz.prog 17 #[.agg #[dv, tv]] w fun e w' => e = .returned (.string (Px.ba (printP d t))) ∧ Kept w w' := by
  have HD : Hid (DsIn w 0 w.heap.size d dv ∧ TsIn w 0 w.heap.size t tv) := ⟨hd, ht⟩
  obtain ⟨ad, qd, rfl, d1, d2, d3⟩ := hd.open
  obtain ⟨at', qt, rfl, t1, t2, t3⟩ := ht.open
  have HEE : Hid (Env w) := hE
  have HWR : Hid (∀ W, Kept w W → Calls Tryz.prog 40 #[.agg #[.slice ad d.length qd, .slice at' t.length qt]] W fun e w' => Wrote W.heap.size W (wP d t) e w' ∧ (wP d t).length ≤ 100000000000) :=
    fun W hK => twrite_any d t W _ _ (hd.up (Nat.le_refl _) hK) (ht.up (Nat.le_refl _) hK) hW (hE.kept hK)
  have HSM : Hid (∀ W d' t' dv' tv', Kept w W → DsIn W 0 W.heap.size d' dv' → TsIn W 0 W.heap.size t' tv' → Calls Tryz.prog 41 #[.agg #[dv', tv'], .agg #[.slice ad d.length qd, .slice at' t.length qt]] W fun e w' => e = .returned (.bool (Dc.sames d' d && sameTs t' t)) ∧ Kept W w') :=
    fun W d' t' dv' tv' hK h1 h2 => same_any d' d t' t W _ _ _ _ h1 h2 (hd.up (Nat.le_refl _) hK) (ht.up (Nat.le_refl _) hK)
  clear hd ht hW hE d1 d2 d3 t1 t2 t3
  generalize hdn : d.length = dn at *
  generalize htn : t.length = tn at *
  clear hdn htn
  go_enter Tryz.func17, Tryz.ntmps17
  go_wp2_with fail
  obtain ⟨W1, hW1⟩ : ∃ W1, w.alloc (.cells #[.slice ad dn qd, .slice at' tn qt] 27) = W1 := ⟨_, rfl⟩
  have KW : Hid (Kept w W1) := by rw [← hW1]; exact (Kept.refl _).al _
  have c0 : W1.cell? ⟨w.heap.size, 0, none⟩ = some (.slice ad dn qd) := by rw [← hW1]; simp
  have c1 : W1.cell? ⟨w.heap.size, 1, none⟩ = some (.slice at' tn qt) := by rw [← hW1]; simp
  have hlt1 : w.heap.size < W1.heap.size := by rw [← hW1]; simp
  rw [hW1]
  clear hW1
  refine (HWR.out _ KW.out).mono ?_
  rintro e w2 ⟨⟨a2, cap2, rfl, tx, k2⟩, hln⟩
  have hcv := tx.conv
  have HK2 : Hid (Kept W1 w2) := k2.bel
  have e0 := HK2.out.cellS c0
  have e1 := HK2.out.cellS c1
  have hlt2 : w.heap.size < w2.heap.size := Nat.lt_of_lt_of_le hlt1 HK2.out.size
  obtain ⟨r, q, hrq⟩ : ∃ r q, Pp.out (Px.ba (wP d t)) = (r, q) := ⟨_, _, rfl⟩
  have HRQ : Hid _ := hrq
  have HRD : Hid (∀ W, Kept w W → Calls Tryz.prog 10 #[.string ⟨(wP d t).toArray⟩] W fun e w' => GotR (Px.ba (wP d t)) W r q e w') :=
    fun W hK => pread_any (Px.ba (wP d t)) (by rw [Px.ba_size]; omega) W (HEE.out.er.kept hK) _ _ hrq
  have HKW2 : Hid (Kept w w2) := KW.out.then HK2.out
  clear tx k2 hrq hln c0 c1
  generalize hP : (⟨(wP d t).toArray⟩ : ByteArray) = P at *
  have HP : Hid (P = Px.ba (wP d t)) := hP.symm
  clear hP
  go_wp2_with fail
  refine (HRD.out _ HKW2.out).mono ?_
  rintro e w3 ⟨b1, m1, p1, b2, m2, p2, X, Y, E, rfl, H⟩
  obtain ⟨k3, hn, hv⟩ := unhide H
  have f0 := k3.cellS e0
  have f1 := k3.cellS e1
  have HK3 : Hid (Kept w w3) := HKW2.out.then k3
  have hlt3 : w.heap.size < w3.heap.size := Nat.lt_of_lt_of_le hlt2 k3.size
  cases r with
  | none =>
    obtain ⟨rfl, rfl, rfl, rfl, rfl, rfl, rfl, rfl, rfl⟩ := hn rfl
    have HPR : Hid (printP d t = []) := printP_out HRQ.out
    clear k3 hn hv H e0 e1
    go_wp2_with fail
    go_ret
    rw [HPR.out]
    exact ⟨rfl, HK3.out.al _⟩
  | some pq =>
    obtain ⟨d', t'⟩ := pq
    obtain ⟨rfl, rfl, rfl, hds, hts⟩ := hv _ _ rfl
    have HDT : Hid (DsIn w3 0 w3.heap.size d' (.slice b1 m1 p1) ∧ TsIn w3 0 w3.heap.size t' (.slice b2 m2 p2)) := ⟨hds.mono fun k hk => ⟨Nat.zero_le _, hk.2⟩, hts.mono fun k hk => ⟨Nat.zero_le _, hk.2⟩⟩
    have HPR : Hid _ := printP_some HRQ.out
    clear k3 hn hv H e0 e1 hds hts
    have HS : Hid (∀ W, Kept w3 W → Calls Tryz.prog 41 #[.agg #[.slice b1 m1 p1, .slice b2 m2 p2], .agg #[.slice ad dn qd, .slice at' tn qt]] W fun e w' => e = .returned (.bool (Dc.sames d' d && sameTs t' t)) ∧ Kept W w') :=
      fun W hK => HSM.out W d' t' _ _ (HK3.out.then hK) (HDT.out.1.up (Nat.le_refl _) hK) (HDT.out.2.up (Nat.le_refl _) hK)
    cases hs : Dc.sames d' d && sameTs t' t with
    | true =>
      rw [hs] at HS HPR
      have HPR2 : Hid (printP d t = wP d t) := by show _ = _; rw [HPR.out, if_pos rfl]
      clear hs HPR
      go_wp2_with fail
      refine (HS.out _ ((Kept.refl _).al _)).mono ?_
      rintro e w4 ⟨rfl, k4⟩
      have HF : Hid (Kept w w4) := (HK3.out.al _).then k4
      clear k4
      go_wp2_with fail
      go_ret
      rw [HPR2.out]
      exact ⟨by rw [← HP.out]; rfl, HF.out⟩
    | false =>
      rw [hs] at HS HPR
      have HPR2 : Hid (printP d t = []) := by show _ = _; rw [HPR.out, if_neg (by simp)]
      clear hs HPR
      go_wp2_with fail
      refine (HS.out _ ((Kept.refl _).al _)).mono ?_
      rintro e w4 ⟨rfl, k4⟩
      have HF : Hid (Kept w w4) := (HK3.out.al _).then k4
      clear k4
      go_wp2_with fail
      go_ret
      rw [HPR2.out]
      exact ⟨rfl, HF.out⟩

set_option maxRecDepth 100000 in
set_option maxHeartbeats 1000000 in
theorem tright_any (d : List Dc) (t : List (List St)) (w : World) (dv tv : Value) (hd : DsIn w 0 w.heap.size d dv) (ht : TsIn w 0 w.heap.size t tv) (hW : WrP d t) (hE : Env w) (b : Bool) (hb : (!(printP d t).isEmpty) = b) :
    Calls Tryz.prog 18 #[.agg #[dv, tv]] w fun e w' => e = .returned (.bool b) ∧ Kept w w' := by
  obtain ⟨ad, qd, rfl, -⟩ := hd.open
  obtain ⟨at', qt, rfl, -⟩ := ht.open
  generalize hdn : d.length = dn at *
  generalize htn : t.length = tn at *
  clear hdn htn
  have HC : Hid (∀ W, Kept w W → Calls Tryz.prog 17 #[.agg #[.slice ad dn qd, .slice at' tn qt]] W fun e w' => e = .returned (.string (Px.ba (printP d t))) ∧ Kept W w') :=
    fun W hK => tprint_any d t W _ _ (hd.up (Nat.le_refl _) hK) (ht.up (Nat.le_refl _) hK) hW (hE.kept hK)
  have HT : Hid ((!(Px.ba (printP d t)).toList.isEmpty) = b) := by show _ = _; rw [toList_data]; simpa [Px.ba] using hb
  generalize Px.ba (printP d t) = T at *
  clear hd ht hW hE hb
  go_enter Tryz.func18, Tryz.ntmps18
  go_wp2_with fail
  refine (HC.out _ ((Kept.refl _).al _)).mono ?_
  rintro e w1 ⟨rfl, k1⟩
  have K1 : Hid (Kept w w1) := ((Kept.refl w).al _).then k1
  clear k1
  go_wp2_with fail
  go_ret
  exact ⟨ret_bool HT.out, K1.out⟩
end Go.Proofs.YtkobdephobaopaaGreatDoor

namespace Go.Proofs.YtkobdephobaopaaGreatDoor
open Go.RowKit
namespace Ps.Pu
open Lx (Core)
open Px (hd isNm ba e0 T C D Wf TokOk cost)
open Pp
open Ps

theorem tpw_le (k : Int) (t : List UInt8) (l : Nat) : t.length ≤ (Px.tpw k t l).length := by unfold Px.tpw; split <;> simp <;> omega
theorem size_tb {x : Ex} (h : Wf x) : x.size ≤ (Px.tb x).length := by
  induction h with
  | num n hn =>
    rw [Px.tb_num]
    have h1 : (Px.numE n).size = 1 := by unfold Px.numE; rw [Ex.size_eq]; simp [Ex.of, Ex.sizes]
    have h2 : Lib.itoa (n : Int) ≠ [] := by
      have := Px.text_ne (Wf.num n hn) 1
      intro e
      apply this
      show Px.tpw _ _ _ = _
      unfold Px.tpw
      rw [if_neg (by have := Px.rnk_pos (Px.numE n).kind; omega), Px.tb_num, e]
    have := List.length_pos_iff.2 h2
    omega
  | name t ht =>
    rw [Px.tb_name]
    have h1 : (Px.nameE t).size = 1 := by unfold Px.nameE; rw [Ex.size_eq]; simp [Ex.of, Ex.sizes]
    have := List.length_pos_iff.2 (Pp.isNm_ne ht)
    omega
  | minus y _ ih =>
    rw [Px.tb_minus, Px.size_minus, List.length_cons]
    have := tpw_le y.kind (Px.tb y) 4
    show _ ≤ (Px.tpw y.kind (Px.tb y) 4).length + 1
    omega
  | bin k y z h4 h10 _ _ iy iz =>
    rw [Px.tb_bin k y z h4, Px.size_bin]
    have h1 := tpw_le y.kind (Px.tb y) (max (Px.rnk k) 2)
    have h2 := tpw_le z.kind (Px.tb z) (Px.rnk k + 1)
    simp only [List.length_append, List.length_cons]
    show _ ≤ (Px.tpw y.kind (Px.tb y) (max (Px.rnk k) 2)).length + (_ + ((Px.tpw z.kind (Px.tb z) (Px.rnk k + 1)).length + 1) + 1)
    omega
theorem size_T {x : Ex} (h : Wf x) (l : Nat) : x.size ≤ (T x l).length := Nat.le_trans (size_tb h) (tpw_le _ _ _)
theorem ge_sh {x : Ex} (h : Ps.GE x) : (T x 1).length ≤ 6000 ∧ x.size ≤ 6000 := by
  have h1 := h.len
  have h2 := size_T h.wf 1
  omega
theorem sh_of {e : Nat} {s : St} (h : Ps.Gd e s) : Sh 6000 s := by
  have h1 := t_ex0 1
  have h2 := z_ex0
  induction h with
  | assign e a x p q ha hx => exact .leaf (ge_sh hx).1 (ge_sh hx).2
  | word e k a p q hk ha => exact .leaf (by omega) (by omega)
  | send e a x p q ha hx => exact .leaf (ge_sh hx).1 (ge_sh hx).2
  | recv e a b p q ha hb => exact .leaf (by omega) (by omega)
  | print e x p q hx => exact .leaf (ge_sh hx).1 (ge_sh hx).2
  | cond e x b c p q hx _ _ ib ic => exact .mk _ (ge_sh hx).1 (ge_sh hx).2 ib ic
  | rep e n b p q hn _ ib => exact .mk _ (by show (T ex0 1).length ≤ 6000; omega) (by show ex0.size ≤ 6000; omega) ib (fun s hs => by cases hs)
theorem fit_ex0 : ex0.fit := by
  rw [Ex.fit_eq]
  exact ⟨⟨by decide, by decide, by decide⟩, trivial⟩
theorem nm_size {a : List UInt8} (h : isNm a = true) : (ba a).size ≤ 12 := by
  have := Ps.nm_len h
  show a.toArray.size ≤ 12
  simpa using this
theorem zE : (e0 : ByteArray).size ≤ 12 := by decide
theorem zl : (-9223372036854775808 : Int) ≤ 0 := by decide
theorem zu : (0 : Int) ≤ 9223372036854775807 := by decide
theorem wr_of {e : Nat} {s : St} (h : Gd e s) : Sh 6000 s → Wr s := by
  have none' : ∀ x ∈ ([] : List St), Wr x := fun _ h => by cases h
  induction h with
  | assign e a x p q ha hx => intro hs; cases hs with
    | mk _ ht hz hb hc => exact .mk _ (nm_size ha) zE zl zu hx.wf.fit (Nat.le_trans hz (by decide)) none' none'
  | word e k a p q hk ha => intro hs; exact .mk _ (nm_size ha) zE zl zu fit_ex0 (by show ex0.size ≤ _; rw [z_ex0]; decide) none' none'
  | send e a x p q ha hx => intro hs; cases hs with
    | mk _ ht hz hb hc => exact .mk _ (nm_size ha) zE zl zu hx.wf.fit (Nat.le_trans hz (by decide)) none' none'
  | recv e a b p q ha hb => intro hs; exact .mk _ (nm_size ha) (nm_size hb) zl zu fit_ex0 (by show ex0.size ≤ _; rw [z_ex0]; decide) none' none'
  | print e x p q hx => intro hs; cases hs with
    | mk _ ht hz hb hc => exact .mk _ zE zE zl zu hx.wf.fit (Nat.le_trans hz (by decide)) none' none'
  | cond e x b c p q hx _ _ ib ic => intro hs; cases hs with
    | mk _ ht hz hb hc => exact .mk _ (by show (e0 : ByteArray).size ≤ 12; decide) (by show (e0 : ByteArray).size ≤ 12; decide) (by show (-9223372036854775808 : Int) ≤ 0; decide) (by show (0 : Int) ≤ 9223372036854775807; decide) hx.wf.fit (Nat.le_trans hz (by decide)) (fun y hy => ib y hy (hb y hy)) (fun y hy => ic y hy (hc y hy))
  | rep e n b p q hn _ ib => intro hs; cases hs with
    | mk _ ht hz hb hc => exact .mk _ (by show (e0 : ByteArray).size ≤ 12; decide) (by show (e0 : ByteArray).size ≤ 12; decide) (by show (-9223372036854775808 : Int) ≤ (n : Int); omega) (by show (n : Int) ≤ 9223372036854775807; omega) fit_ex0 (by show ex0.size ≤ _; rw [z_ex0]; decide) (fun y hy => ib y hy (hb y hy)) none'
theorem wrd_of {x : Dc} (h : GdD x) : x.name.size ≤ 12 ∧ -9223372036854775808 ≤ x.n ∧ x.n ≤ 9223372036854775807 := by
  cases h with
  | plain k a p q h1 h5 ha => exact ⟨nm_size ha, by show (-9223372036854775808 : Int) ≤ 0; decide, by show (0 : Int) ≤ 9223372036854775807; decide⟩
  | chan n a p q hn ha => exact ⟨nm_size ha, by show (-9223372036854775808 : Int) ≤ (n : Int); omega, by show (n : Int) ≤ 9223372036854775807; omega⟩
theorem wrp_of {d : List Dc} {t : List (List St)} (h : Fine d t) (hs : ∀ b ∈ t, ∀ s ∈ b, Sh 6000 s) (hz : ∀ b ∈ t, St.sizes b ≤ 7000) : WrP d t :=
  ⟨fun x hx => wrd_of (h.ds x hx), by have := h.d1; omega, fun b hb => ⟨fun s hs' => wr_of (h.ts b hb s hs') (hs b hb s hs'), hz b hb⟩, by have := h.t1; omega⟩
/-- A program of good statements: it may be written, and is printed as it is shown. -/
theorem made_print {d : List Dc} {t : List (List St)} (hd : ∀ x ∈ d, GdD x) (hd1 : d.length ≤ 24) (ht : ∀ b ∈ t, (∀ s ∈ b, Ps.Gd 2 s) ∧ St.sizes b ≤ 16) (ht0 : t ≠ []) (ht1 : t.length ≤ 4) : WrP d t ∧ printP d t = shown d t ∧ (shown d t).length ≤ 5164 := by
  have hl := Ps.shown_len (e := 2) (by decide) d t hd ht
  have hf : Fine d t := ⟨hd, fun b hb s hs => (of_gd ((ht b hb).1 s hs)).le (by decide), hd1, ht0, ht1⟩
  have hs : ∀ b ∈ t, ∀ s ∈ b, Sh 6000 s := fun b hb s hs => sh_of ((ht b hb).1 s hs)
  exact ⟨wrp_of hf hs (fun b hb => by have := (ht b hb).2; omega), printP_good hf hs (by omega), by omega⟩
end Ps.Pu
end Go.Proofs.YtkobdephobaopaaGreatDoor

namespace Go.Proofs.YtkobdephobaopaaGreatDoor
open Go.RowKit
open Ps.Pu (Wr printP)
attribute [local go_sem] run_store_complex

def yKn : List UInt8 := [118, 97, 114, 32, 120, 10, 103, 111, 32, 123, 10, 9, 120, 32, 61, 32, 49, 10, 125, 10]
theorem printKn : printP dKn tKn = yKn := by kernel_rfl
theorem wrKn : WrP dKn tKn := by
  refine ⟨?_, by decide, ?_, by decide⟩
  · intro x hx
    obtain rfl : x = ⟨1, Px.ba [120], 0, 4607182418800017408, 4607182418800017408⟩ := by simpa [dKn] using hx
    exact ⟨by decide, by decide, by decide⟩
  · intro b hb
    obtain rfl : b = [.mk 1 (Px.ba [120]) Px.e0 0 (Px.numE 1) [] [] 4607182418800017408 4621819117588971520] := by simpa [tKn] using hb
    refine ⟨?_, by decide⟩
    intro s hs
    obtain rfl : s = .mk 1 (Px.ba [120]) Px.e0 0 (Px.numE 1) [] [] 4607182418800017408 4621819117588971520 := by simpa using hs
    exact .mk _ (by decide) (by decide) (by decide) (by decide) (Px.Wf.num 1 (by decide)).fit (by decide) (fun _ h => by cases h) (fun _ h => by cases h)

set_option maxRecDepth 100000 in
set_option maxHeartbeats 1000000 in
theorem known6_any (w : World) (hE : Env w) : Calls Tryz.prog 16 #[] w fun e w' => e = .returned (.bool true) ∧ Kept w w' := by
  have HC := hide (pread_any sKn (by decide) w hE.er _ _ outKn)
  have HEE : Hid (Env w) := hE
  clear hE
  go_enter Tryz.func16, Tryz.ntmps16
  go_wp2_with fail
  refine (unhide HC).mono ?_
  rintro e w1 ⟨a1, n1, q1, a2, n2, q2, X, Y, E, rfl, H⟩
  obtain ⟨hk, -, hv⟩ := unhide H
  obtain ⟨rfl, rfl, rfl, hd, ht⟩ := hv _ _ rfl
  have HD : Hid (DsIn w1 0 w1.heap.size dKn (.slice a1 n1 q1) ∧ TsIn w1 0 w1.heap.size tKn (.slice a2 n2 q2)) := ⟨hd.mono fun k hk => ⟨Nat.zero_le _, hk.2⟩, ht.mono fun k hk => ⟨Nat.zero_le _, hk.2⟩⟩
  have HK : Hid (Kept w w1) := hk
  have HPR : Hid (∀ W, Kept w1 W → Calls Tryz.prog 17 #[.agg #[.slice a1 n1 q1, .slice a2 n2 q2]] W fun e w' => e = .returned (.string (Px.ba yKn)) ∧ Kept W w') := fun W hW => by
    have := tprint_any dKn tKn W _ _ (HD.out.1.up (Nat.le_refl _) hW) (HD.out.2.up (Nat.le_refl _) hW) wrKn (HEE.out.kept (HK.out.then hW))
    rwa [printKn] at this
  have HRI : Hid (∀ W, Kept w1 W → Calls Tryz.prog 18 #[.agg #[.slice a1 n1 q1, .slice a2 n2 q2]] W fun e w' => e = .returned (.bool true) ∧ Kept W w') := fun W hW =>
    tright_any dKn tKn W _ _ (HD.out.1.up (Nat.le_refl _) hW) (HD.out.2.up (Nat.le_refl _) hW) wrKn (HEE.out.kept (HK.out.then hW)) true (by rw [printKn]; rfl)
  have ht0 : ((Px.ba yKn).toList == [118, 97, 114, 32, 120, 10, 103, 111, 32, 123, 10, 9, 120, 32, 61, 32, 49, 10, 125, 10]) = true := by rw [toList_data]; rfl
  generalize Px.ba yKn = T at *
  clear hk H hv hd ht HC
  go_wp2_with fail
  refine (HPR.out _ ((Kept.refl _).al _)).mono ?_
  rintro e w2 ⟨rfl, k2⟩
  have c0 : w2.cell? ⟨w1.heap.size, 0, none⟩ = some (.slice a1 n1 q1) := k2.cellS (by simp)
  have c1 : w2.cell? ⟨w1.heap.size, 1, none⟩ = some (.slice a2 n2 q2) := k2.cellS (by simp)
  have HK2 : Hid (Kept w1 w2) := ((Kept.refl w1).al _).then k2
  clear k2
  go_wp2_with fail
  refine (HRI.out _ HK2.out).mono ?_
  rintro e w3 ⟨rfl, k3⟩
  have HK3 : Hid (Kept w w3) := (HK.out.then HK2.out).then k3
  clear k3
  go_wp2_with fail
  go_ret
  exact ⟨rfl, HK3.out⟩
end Go.Proofs.YtkobdephobaopaaGreatDoor
