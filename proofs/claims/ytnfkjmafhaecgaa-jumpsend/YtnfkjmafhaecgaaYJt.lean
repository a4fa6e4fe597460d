/- Jt -/
import Derived.Test.YtnfkjmafhaecgaaYJx

namespace Go.Proofs.Ytnfkjmafhaecgaa
open Go.RowKit Jf
attribute [local go_sem] run_store_complex
set_option maxRecDepth 100000 in
theorem cut_jk (w : World) (a : Option Addr) (n cap k : Nat) (h : (k : Int) < (n : Int)) : (Instr.sliceAt 60 (.slice a n cap) (some (.int .i64 ((k : Int) + 1))) none none).run Try.prog w = .ok (.slice (cutAt a (k + 1) cap 6) (n - (k + 1)) (cap - (k + 1))) w := by
  have := run_cut_l (t := 60) Try.underlying60 rfl Try.sizeOf64 a n cap (k + 1) (by omega) w
  rw [show ((k : Int) + 1) = ((k + 1 : Nat) : Int) by omega, this]
attribute [local go_sem ↓] cut_jk
set_option maxRecDepth 100000 in
set_option maxHeartbeats 1000000 in
theorem Target_any (d : List Dc) (t : List (List St)) (site : Int) (w : World) (dv tv : Value) (hd : DsIn w 0 w.heap.size d dv) (ht : TsIn w 0 w.heap.size t tv) (hn : tsz t ≤ 1073741824) : Calls Try.prog 13 #[.agg #[dv, tv], .int .i64 site] w fun e w' => e = .returned (.int .i64 (starg (spt t 0 0) site)) ∧ Kept w w' := by
  have SP : Hid (∀ W, Kept w W → Calls Try.prog 30 #[.agg #[dv, tv]] W fun e w' => ∃ v, e = .returned v ∧ Hid (OwnJ w' W.heap.size (spt t 0 0) v ∧ Kept W w')) := fun W hW => spots_any d t W dv tv (hd.up (Nat.le_refl _) hW) (ht.up (Nat.le_refl _) hW) hn
  obtain ⟨ad, capd, rfl, -⟩ := hd.open
  obtain ⟨a, cap, rfl, -⟩ := ht.open
  have HLN : Hid ((spt t 0 0).length ≤ 1073741824) := Nat.le_trans (spt_len _ _ _) hn
  obtain ⟨L, hL⟩ : ∃ L, spt t 0 0 = L := ⟨_, rfl⟩
  rw [hL] at SP HLN ⊢
  clear hd ht hn hL
  go_enter Try.func13, Try.ntmps13
  go_wp2_with fail
  refine Calls.mono (SP.out _ ((Kept.refl _).al _)) ?_
  rintro e w1 ⟨v, rfl, H1⟩
  have HJ : Hid (JsD w1 L v) := H1.out.1.js
  have K1 : Hid (Kept w w1) := ((Kept.refl w).al _).then H1.out.2
  obtain ⟨sa, scap, rfl, hsl, hsc⟩ := HJ.out.open
  clear SP H1 hsl hsc
  have hll : (L.length : Int) ≤ 1073741824 := by have := HLN.out; omega
  go_wp2_with fail
  go_loopw [12] (fun i wr => ∃ k : Nat, i = .int .i64 (k : Int) ∧ k ≤ L.length ∧ Hid (Kept w1 wr ∧ starg L site = starg (L.drop k) site)) (fun i _ => L.length - (intOf i).toNat)
  case atStart => exact ⟨0, rfl, Nat.zero_le _, Kept.refl _, rfl⟩
  case round =>
    obtain ⟨k, rfl, hk, HI⟩ := hrel
    by_cases hlt : k < L.length
    · have hki : (k : Int) < (L.length : Int) := by omega
      obtain ⟨b, o, rfl, c0, c1, c2, c3, c4, c5, cl⟩ := (HJ.out.kept HI.out.1).item k hlt
      have hst : starg L site = if (L[k].num : Int) = site ∧ L[k].lab = false then stgt L[k] (L.drop (k + 1)) else starg (L.drop (k + 1)) site := by rw [HI.out.2, starg_step L k hlt]
      have HT : Hid (∀ W, Kept w1 W → Calls Try.prog 36 #[L[k].val, .slice (cutAt (some ⟨b, o, none⟩) (k + 1) scap 6) (L.length - (k + 1)) (scap - (k + 1))] W fun e w' => e = .returned (.int .i64 (stgt L[k] (L.drop (k + 1)))) ∧ Kept W w') := fun W hW => jtarget_any L[k] (L.drop (k + 1)) W _ ((HJ.out.kept hW).cut (k + 1) hlt)
      obtain ⟨x, hx⟩ : ∃ x, L[k] = x := ⟨_, rfl⟩
      rw [hx] at c0 c1 c2 c3 c4 c5 hst HT
      unfold Sp.val at HT
      have HST : Hid _ := hst
      have HKW : Hid (Kept w1 wr) := HI.out.1
      have hwm : IntKind.i64.wrap ((k : Int) + 1) = (k : Int) + 1 := by rw [IntKind.wrap_i64]; omega
      clear hst hx HI
      by_cases hsite : (x.num : Int) = site
      · subst hsite
        cases hlab : x.lab with
        | true =>
          rw [hlab] at c0
          have HE : Hid (starg L (x.num : Int) = starg (L.drop (k + 1)) (x.num : Int)) := by show _ = _; rw [HST.out, hlab, if_neg (by simp)]
          clear HT HST hlab
          go_wp2_with fail
          go_roundw
          case rel => exact ⟨k + 1, by go_num, by omega, HKW.out.al _, HE.out⟩
          case measure => simp [intOf]; omega
        | false =>
          rw [hlab] at c0 HT
          have HE : Hid (starg L (x.num : Int) = stgt x (L.drop (k + 1))) := by show _ = _; rw [HST.out, if_pos ⟨rfl, hlab⟩]
          clear HST hlab
          go_wp2_with fail
          obtain ⟨W2, hW2⟩ : ∃ W, wr.alloc (.cells #[.bool false, .string x.name, .int .i64 (x.num : Int), .int .i64 (x.blk : Int), .int .i64 (x.thr : Int), .complex .f64 x.re x.im] 64) = W := ⟨_, rfl⟩
          obtain ⟨D, hD⟩ : ∃ D, wr.heap.size = D := ⟨_, rfl⟩
          have HD : Hid (BoxS W2 D [.bool false, .string x.name, .int .i64 (x.num : Int), .int .i64 (x.blk : Int), .int .i64 (x.thr : Int), .complex .f64 x.re x.im]) := by rw [← hW2, ← hD]; exact box_newQ _ _ _
          have HK2 : Hid (Kept w1 W2) := HKW.out.then (by rw [← hW2]; exact (Kept.refl _).al _)
          rw [hW2, hD]
          have bd := HD.out
          have d0 := bd.cell 0 rfl
          have d1 := bd.cell 1 rfl
          have d2 := bd.cell 2 rfl
          have d3 := bd.cell 3 rfl
          have d4 := bd.cell 4 rfl
          have d5 := bd.cell 5 rfl
          clear bd c0 c1 c2 c3 c4 c5 cl hW2 hD
          go_region_held3 (fun w' => w'.cell? ⟨D, 0, none⟩ = some (.bool false) ∧ w'.cell? ⟨D, 1, none⟩ = some (.string x.name) ∧ w'.cell? ⟨D, 2, none⟩ = some (.int .i64 (x.num : Int)) ∧ w'.cell? ⟨D, 3, none⟩ = some (.int .i64 (x.blk : Int)) ∧ w'.cell? ⟨D, 4, none⟩ = some (.int .i64 (x.thr : Int)) ∧ w'.cell? ⟨D, 5, none⟩ = some (.complex .f64 x.re x.im)) (first | go_keep | (refine ⟨e0, e1, e2, e3, e4, e5⟩)) (first | (go_at_call 36; refine (HT.out _ HK2.out.dr).mono ?_; rintro e w5 ⟨rfl, k5⟩; have HK5 : Hid (Kept w1 w5) := HK2.out.dr.then k5; have bd := (HD.out.kept (Kept.refl _).dr).kept k5; have e0 := bd.cell 0 rfl; have e1 := bd.cell 1 rfl; have e2 := bd.cell 2 rfl; have e3 := bd.cell 3 rfl; have e4 := bd.cell 4 rfl; have e5 := bd.cell 5 rfl; clear bd k5) | fail)
          all_goals
            go_wp2_with fail
            go_ret
            exact ⟨by rw [HE.out]; rfl, K1.out.then HK5.out⟩
      · have hne : ((x.num : Int) == site) = false := by simpa using hsite
        have HE : Hid (starg L site = starg (L.drop (k + 1)) site) := by show _ = _; rw [HST.out, if_neg (fun h => hsite h.1)]
        clear HT HST hsite
        go_wp2_with fail
        go_roundw
        case rel => exact ⟨k + 1, by go_num, by omega, HKW.out.al _, HE.out⟩
        case measure => simp [intOf]; omega
    · have hki : ¬ (k : Int) < (L.length : Int) := by omega
      have HE : Hid (starg L site = -1) := by show _ = _; rw [HI.out.2, List.drop_eq_nil_of_le (by omega)]; rfl
      have HK : Hid (Kept w wr) := K1.out.then HI.out.1
      go_wp2_with fail
      go_ret
      exact ⟨by rw [HE.out]; rfl, HK.out⟩
end Go.Proofs.Ytnfkjmafhaecgaa
