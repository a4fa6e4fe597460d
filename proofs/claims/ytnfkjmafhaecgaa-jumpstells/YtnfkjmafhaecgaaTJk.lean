/- Jt Jk -/
import Derived.Test.YtnfkjmafhaecgaaTJx
import Derived.Test.YtnfkjmafhaecgaaTQb
import Derived.Test.YtnfkjmafhaecgaaTJo
import Derived.Test.YtnfkjmafhaecgaaTWD

namespace Go.Proofs.Ytnfkjmafhaecgaa
open Go.RowKit Jf
attribute [local go_sem] run_store_complex
set_option maxRecDepth 100000 in
theorem cut_jk (w : World) (a : Option Addr) (n cap k : Nat) (h : (k : Int) < (n : Int)) : (Instr.sliceAt 60 (.slice a n cap) (some (.int .i64 ((k : Int) + 1))) none none).run Try.prog w = .ok (.slice (cutAt a (k + 1) cap 6) (n - (k + 1)) (cap - (k + 1))) w := by
  have := run_cut_l (t := 60) Try.underlying60 rfl Try.sizeOf64 a n cap (k + 1) (by omega) w
  rw [show ((k : Int) + 1) = ((k + 1 : Nat) : Int) by omega, this]
attribute [local go_sem ↓] cut_jk
set_option maxRecDepth 100000 in
set_option maxHeartbeats 1000000 in
theorem Target_any (d : List Dc) (t : List (List St)) (site : Int) (w : World) (dv tv : Value) (hd : DsIn w 0 w.heap.size d dv) (ht : TsIn w 0 w.heap.size t tv) (hn : tsz t ≤ 1073741824) : Calls Try.prog 13 #[.agg #[dv, tv], .int .i64 site] w fun e w' => e = .returned (.int .i64 (starg (spt t 0 0) site)) ∧ Kept w w' := by
  have SP : Hid (∀ W, Kept w W → Calls Try.prog 30 #[.agg #[dv, tv]] W fun e w' => ∃ v, e = .returned v ∧ Hid (OwnJ w' W.heap.size (spt t 0 0) v ∧ Kept W w')) := fun W hW => spots_any d t W dv tv (hd.up (Nat.le_refl _) hW) (ht.up (Nat.le_refl _) hW) hn
  obtain ⟨ad, capd, rfl, -⟩ := hd.open
  obtain ⟨a, cap, rfl, -⟩ := ht.open
  have HLN : Hid ((spt t 0 0).length ≤ 1073741824) := Nat.le_trans (spt_len _ _ _) hn
  obtain ⟨L, hL⟩ : ∃ L, spt t 0 0 = L := ⟨_, rfl⟩
  rw [hL] at SP HLN ⊢
  clear hd ht hn hL
  go_enter Try.func13, Try.ntmps13
  go_wp2_with fail
  refine Calls.mono (SP.out _ ((Kept.refl _).al _)) ?_
  rintro e w1 ⟨v, rfl, H1⟩
  have HJ : Hid (JsD w1 L v) := H1.out.1.js
  have K1 : Hid (Kept w w1) := ((Kept.refl w).al _).then H1.out.2
  obtain ⟨sa, scap, rfl, hsl, hsc⟩ := HJ.out.open
  clear SP H1 hsl hsc
  have hll : (L.length : Int) ≤ 1073741824 := by have := HLN.out; omega
  go_wp2_with fail
  go_loopw [12] (fun i wr => ∃ k : Nat, i = .int .i64 (k : Int) ∧ k ≤ L.length ∧ Hid (Kept w1 wr ∧ starg L site = starg (L.drop k) site)) (fun i _ => L.length - (intOf i).toNat)
  case atStart => exact ⟨0, rfl, Nat.zero_le _, Kept.refl _, rfl⟩
  case round =>
    obtain ⟨k, rfl, hk, HI⟩ := hrel
    by_cases hlt : k < L.length
    · have hki : (k : Int) < (L.length : Int) := by omega
      obtain ⟨b, o, rfl, c0, c1, c2, c3, c4, c5, cl⟩ := (HJ.out.kept HI.out.1).item k hlt
      have hst : starg L site = if (L[k].num : Int) = site ∧ L[k].lab = false then stgt L[k] (L.drop (k + 1)) else starg (L.drop (k + 1)) site := by rw [HI.out.2, starg_step L k hlt]
      have HT : Hid (∀ W, Kept w1 W → Calls Try.prog 36 #[L[k].val, .slice (cutAt (some ⟨b, o, none⟩) (k + 1) scap 6) (L.length - (k + 1)) (scap - (k + 1))] W fun e w' => e = .returned (.int .i64 (stgt L[k] (L.drop (k + 1)))) ∧ Kept W w') := fun W hW => jtarget_any L[k] (L.drop (k + 1)) W _ ((HJ.out.kept hW).cut (k + 1) hlt)
      obtain ⟨x, hx⟩ : ∃ x, L[k] = x := ⟨_, rfl⟩
      rw [hx] at c0 c1 c2 c3 c4 c5 hst HT
      unfold Sp.val at HT
      have HST : Hid _ := hst
      have HKW : Hid (Kept w1 wr) := HI.out.1
      have hwm : IntKind.i64.wrap ((k : Int) + 1) = (k : Int) + 1 := by rw [IntKind.wrap_i64]; omega
      clear hst hx HI
      by_cases hsite : (x.num : Int) = site
      · subst hsite
        cases hlab : x.lab with
        | true =>
          rw [hlab] at c0
          have HE : Hid (starg L (x.num : Int) = starg (L.drop (k + 1)) (x.num : Int)) := by show _ = _; rw [HST.out, hlab, if_neg (by simp)]
          clear HT HST hlab
          go_wp2_with fail
          go_roundw
          case rel => exact ⟨k + 1, by go_num, by omega, HKW.out.al _, HE.out⟩
          case measure => simp [intOf]; omega
        | false =>
          rw [hlab] at c0 HT
          have HE : Hid (starg L (x.num : Int) = stgt x (L.drop (k + 1))) := by show _ = _; rw [HST.out, if_pos ⟨rfl, hlab⟩]
          clear HST hlab
          go_wp2_with fail
          obtain ⟨W2, hW2⟩ : ∃ W, wr.alloc (.cells #[.bool false, .string x.name, .int .i64 (x.num : Int), .int .i64 (x.blk : Int), .int .i64 (x.thr : Int), .complex .f64 x.re x.im] 64) = W := ⟨_, rfl⟩
          obtain ⟨D, hD⟩ : ∃ D, wr.heap.size = D := ⟨_, rfl⟩
          have HD : Hid (BoxS W2 D [.bool false, .string x.name, .int .i64 (x.num : Int), .int .i64 (x.blk : Int), .int .i64 (x.thr : Int), .complex .f64 x.re x.im]) := by rw [← hW2, ← hD]; exact box_newQ _ _ _
          have HK2 : Hid (Kept w1 W2) := HKW.out.then (by rw [← hW2]; exact (Kept.refl _).al _)
          rw [hW2, hD]
          have bd := HD.out
          have d0 := bd.cell 0 rfl
          have d1 := bd.cell 1 rfl
          have d2 := bd.cell 2 rfl
          have d3 := bd.cell 3 rfl
          have d4 := bd.cell 4 rfl
          have d5 := bd.cell 5 rfl
          clear bd c0 c1 c2 c3 c4 c5 cl hW2 hD
          go_region_held3 (fun w' => w'.cell? ⟨D, 0, none⟩ = some (.bool false) ∧ w'.cell? ⟨D, 1, none⟩ = some (.string x.name) ∧ w'.cell? ⟨D, 2, none⟩ = some (.int .i64 (x.num : Int)) ∧ w'.cell? ⟨D, 3, none⟩ = some (.int .i64 (x.blk : Int)) ∧ w'.cell? ⟨D, 4, none⟩ = some (.int .i64 (x.thr : Int)) ∧ w'.cell? ⟨D, 5, none⟩ = some (.complex .f64 x.re x.im)) (first | go_keep | (refine ⟨e0, e1, e2, e3, e4, e5⟩)) (first | (go_at_call 36; refine (HT.out _ HK2.out.dr).mono ?_; rintro e w5 ⟨rfl, k5⟩; have HK5 : Hid (Kept w1 w5) := HK2.out.dr.then k5; have bd := (HD.out.kept (Kept.refl _).dr).kept k5; have e0 := bd.cell 0 rfl; have e1 := bd.cell 1 rfl; have e2 := bd.cell 2 rfl; have e3 := bd.cell 3 rfl; have e4 := bd.cell 4 rfl; have e5 := bd.cell 5 rfl; clear bd k5) | fail)
          all_goals
            go_wp2_with fail
            go_ret
            exact ⟨by rw [HE.out]; rfl, K1.out.then HK5.out⟩
      · have hne : ((x.num : Int) == site) = false := by simpa using hsite
        have HE : Hid (starg L site = starg (L.drop (k + 1)) site) := by show _ = _; rw [HST.out, if_neg (fun h => hsite h.1)]
        clear HT HST hsite
        go_wp2_with fail
        go_roundw
        case rel => exact ⟨k + 1, by go_num, by omega, HKW.out.al _, HE.out⟩
        case measure => simp [intOf]; omega
    · have hki : ¬ (k : Int) < (L.length : Int) := by omega
      have HE : Hid (starg L site = -1) := by show _ = _; rw [HI.out.2, List.drop_eq_nil_of_le (by omega)]; rfl
      have HK : Hid (Kept w wr) := K1.out.then HI.out.1
      go_wp2_with fail
      go_ret
      exact ⟨by rw [HE.out]; rfl, HK.out⟩
end Go.Proofs.Ytnfkjmafhaecgaa

namespace Go.Proofs.Ytnfkjmafhaecgaa
open Go.RowKit Jf
attribute [local go_sem] run_store_complex
set_option maxRecDepth 100000 in
set_option maxHeartbeats 1000000 in
theorem read9_any (s : ByteArray) (hs : s.size ≤ 1125899906842624) (w : World) (d : List Dc) (t : List (List St)) (q : Nat) (hr : Pp.out s = (some (d, t), q)) :
    Calls Try.prog 17 #[.string s] w fun e w' => ∃ (a1 : Option Addr) (n1 q1 : Nat) (a2 : Option Addr) (n2 q2 : Nat), e = .returned (.agg #[.slice a1 n1 q1, .slice a2 n2 q2]) ∧ Hid (Kept w w' ∧ DsIn w' w.heap.size w'.heap.size d (.slice a1 n1 q1) ∧ TsIn w' w.heap.size w'.heap.size t (.slice a2 n2 q2) ∧ OwnD w' w.heap.size d (.slice a1 n1 q1)) := by
  have RP : Hid (Calls Try.prog 37 #[.string s] (Wz w) fun e w' => GotQ (Wz w) (some (d, t)) q e w') := rparse_any s hs (Wz w) _ _ hr
  clear hs hr
  go_enter Try.func17, Try.ntmps17
  go_wp2_with fail
  refine Calls.mono RP.out ?_
  rintro e w1 ⟨a1, n1, q1, a2, n2, q2, Q, E, rfl, H⟩
  obtain ⟨rfl, rfl, hd, ht, ho⟩ := H.out.2.2 _ _ rfl
  have HK : Hid (Kept (Wz w) w1) := H.out.1
  have HDT : Hid (DsIn w1 (Wz w).heap.size w1.heap.size d (.slice a1 n1 q1) ∧ TsIn w1 (Wz w).heap.size w1.heap.size t (.slice a2 n2 q2) ∧ OwnD w1 (Wz w).heap.size d (.slice a1 n1 q1)) := ⟨hd, ht, ho⟩
  have hbx : BoxS w1 w.heap.size [.slice none 0 0, .slice none 0 0] := (Wz_box w).kept HK.out
  have HBX : Hid (BoxS w1 w.heap.size [.slice none 0 0, .slice none 0 0]) := hbx
  have s0 := hbx.cell 0 rfl
  have s1 := hbx.cell 1 rfl
  have sf0 := hbx.fz 0
  have sf1 := hbx.fz 1
  have hrl := hbx.lt
  clear hd ht ho H hbx
  go_wp2_with fail
  obtain ⟨Wf, hWf⟩ : ∃ Wf, (w1.setCells w.heap.size 0 [.slice a1 n1 q1, .slice a2 n2 q2]).alloc (.cells #[.slice a1 n1 q1, .slice a2 n2 q2] 27) = Wf := ⟨_, rfl⟩
  have kk : Kept (w1.setCells w.heap.size 0 [.slice a1 n1 q1, .slice a2 n2 q2]) Wf := by rw [← hWf]; exact (Kept.refl _).al _
  have hs2 : (w1.setCells w.heap.size 0 [.slice a1 n1 q1, .slice a2 n2 q2]).heap.size = w1.heap.size := size_setCells ..
  have hzw := Wz_size w
  have st : StaysD (Rng (Wz w).heap.size w1.heap.size) w1 Wf := fun j hj => (kk.block j (by rw [hs2]; exact hj.2)).trans (heap_setCells _ _ _ _ j (by have := hj.1; omega))
  have hszf : w1.heap.size ≤ Wf.heap.size := by have := kk.size; omega
  have hkf : Kept w Wf := Kept.then (b := w1.setCells w.heap.size 0 [.slice a1 n1 q1, .slice a2 n2 q2]) (Below.setCells ((Wz_kept w).then HK.out) (Nat.le_refl _) _ _) kk
  have hrg : Wf.rangeAt w.heap.size 0 [.slice a1 n1 q1, .slice a2 n2 q2] := fun j v hv => kk.cellS (World.rangeAt_setCells_same _ _ _ _ (HBX.out.there 0 2 (by decide)) j v hv)
  have hfin : ∃ (b1 : Option Addr) (m1 p1 : Nat) (b2 : Option Addr) (m2 p2 : Nat), Ending.returned (.agg #[.slice a1 n1 q1, .slice a2 n2 q2]) = .returned (.agg #[.slice b1 m1 p1, .slice b2 m2 p2]) ∧ Hid (Kept w Wf ∧ DsIn Wf w.heap.size Wf.heap.size d (.slice b1 m1 p1) ∧ TsIn Wf w.heap.size Wf.heap.size t (.slice b2 m2 p2) ∧ OwnD Wf w.heap.size d (.slice b1 m1 p1)) :=
    ⟨a1, n1, q1, a2, n2, q2, rfl, hkf, (HDT.out.1.stays st).mono (Rng.up (by omega) hszf), (HDT.out.2.1.stays st).mono (Rng.up (by omega) hszf), ((HDT.out.2.2.bu (M := (· = w.heap.size)) (Bu.sets (M := (· = w.heap.size)) (Bu.refl _ _) (.inl rfl) 0 [.slice a1 n1 q1, .slice a2 n2 q2]) (fun k hk _ e => by omega)).bu (M := fun _ => False) (Bu.of kk) fun _ _ _ c => c).lower (by omega)⟩
  rw [← hWf] at hfin hrg
  exact bodyPost_ret (results_cell_mid (P := Try.prog) Try.results17 _ _ w.heap.size 0 [.slice a1 n1 q1, .slice a2 n2 q2] _ rfl hrg Try.underlying27 rfl esizePr) rfl hfin
def jfit (t : List (List St)) : Bool := decide (tsz t ≤ 1073741824) && (flatTs t).all fun s => decide (s.name.size ≤ 1000)
theorem jfit_ok {t : List (List St)} (h : jfit t = true) : tsz t ≤ 1073741824 ∧ ∀ s ∈ flatTs t, s.name.size ≤ maxLen := by
  unfold jfit at h
  simp only [Bool.and_eq_true, List.all_eq_true, decide_eq_true_eq] at h
  exact ⟨h.1, fun s hs => by have := h.2 s hs; unfold maxLen; omega⟩
def ckJ (s : ByteArray) : Option (Option (Nat × Nat) × List Sp) := match (Pp.out s).1 with
  | some (_, t) => if jfit t = true then some (chk (spt t 0 0), spt t 0 0) else none
  | none => none
theorem read9_check (s : ByteArray) (hs : s.size ≤ 1125899906842624) (r : Option (Nat × Nat)) (l : List Sp) (h : ckJ s = some (r, l)) (w : World) :
    Calls Try.prog 17 #[.string s] w fun e w1 => ∃ (a1 : Option Addr) (n1 q1 : Nat) (a2 : Option Addr) (n2 q2 : Nat), e = .returned (.agg #[.slice a1 n1 q1, .slice a2 n2 q2]) ∧ Hid (Kept w w1 ∧ (∀ W, Kept w1 W → Calls Try.prog 10 #[.agg #[.slice a1 n1 q1, .slice a2 n2 q2]] W fun e w' => e = .returned (Jf.told r) ∧ Kept W w') ∧
      (∀ W, Kept w1 W → ∀ i : Int, Calls Try.prog 13 #[.agg #[.slice a1 n1 q1, .slice a2 n2 q2], .int .i64 i] W fun e w' => e = .returned (.int .i64 (starg l i)) ∧ Kept W w')) := by
  obtain ⟨o, q, ho⟩ : ∃ o q, Pp.out s = (o, q) := ⟨_, _, rfl⟩
  unfold ckJ at h
  rw [ho] at h
  cases o with
  | none => cases h
  | some p =>
    obtain ⟨d, t⟩ := p
    simp only at h
    split at h
    · rename_i hf
      injection h with h
      injection h with h1 h2
      obtain ⟨f1, f2⟩ := jfit_ok hf
      refine (read9_any s hs w d t q ho).mono ?_
      rintro e w1 ⟨a1, n1, q1, a2, n2, q2, rfl, H⟩
      refine ⟨a1, n1, q1, a2, n2, q2, rfl, H.out.1, fun W hW => ?_, fun W hW i => ?_⟩
      · rw [← h1]
        exact jcheck_any d t W _ _ (H.out.2.1.up (Nat.le_refl _) hW) (H.out.2.2.1.up (Nat.le_refl _) hW) f1 f2
      · rw [← h2]
        exact Target_any d t i W _ _ (H.out.2.1.up (Nat.le_refl _) hW) (H.out.2.2.1.up (Nat.le_refl _) hW) f1
    · cases h
theorem ckJ_l {s : ByteArray} {r : Option (Nat × Nat)} (h : (ckJ s).map (·.1) = some r) : ∃ l, ckJ s = some (r, l) := by
  cases hc : ckJ s with
  | none => rw [hc] at h; cases h
  | some p => rw [hc] at h; obtain ⟨a, b⟩ := p; injection h with h; subst h; exact ⟨b, rfl⟩
def sA : ByteArray := ⟨#[103, 111, 123, 103, 111, 116, 111, 32, 97, 32, 108, 97, 98, 101, 108, 32, 97, 125]⟩
def sB : ByteArray := ⟨#[103, 111, 123, 108, 97, 98, 101, 108, 32, 97, 32, 103, 111, 116, 111, 32, 97, 125]⟩
theorem jkA : (ckJ sA).map (·.1) = some none := by kernel_rfl
theorem jkB : (ckJ sB).map (·.1) = some (some (4607182418800017408, 4622945017495814144)) := by kernel_rfl
theorem eqj1 : (FloatKind.f64.format.order 4607182418800017408 4607182418800017408 == some Ordering.eq) = true := by decide +kernel
theorem eqj2 : (FloatKind.f64.format.order 4622945017495814144 4622945017495814144 == some Ordering.eq) = true := by decide +kernel
set_option maxRecDepth 100000 in
set_option maxHeartbeats 1000000 in
theorem known9_any (w : World) : Calls Try.prog 15 #[] w fun e w' => e = .returned (.bool true) ∧ Kept w w' := by
  obtain ⟨lA, hA⟩ := ckJ_l jkA
  obtain ⟨lB, hB⟩ := ckJ_l jkB
  have RA : Hid (∀ w, Calls _ _ _ w _) := fun w => read9_check sA (by decide) _ lA hA w
  have RB : Hid (∀ w, Calls _ _ _ w _) := fun w => read9_check sB (by decide) _ lB hB w
  have e1 := eqj1
  have e2 := eqj2
  clear hA hB
  go_enter Try.func15, Try.ntmps15
  go_wp2_with fail
  refine Calls.mono (RA.out _) ?_
  rintro e w1 ⟨a1, n1, q1, a2, n2, q2, rfl, H⟩
  have CK : Hid (∀ W, Kept w1 W → Calls Try.prog 10 #[.agg #[.slice a1 n1 q1, .slice a2 n2 q2]] W fun e w' => e = .returned (.tuple #[.complex .f64 0 0, .int .i64 0]) ∧ Kept W w') := H.out.2.1
  have K1 : Hid (Kept w w1) := H.out.1
  clear H
  go_wp2_with fail
  refine Calls.mono (CK.out _ (Kept.refl _)) ?_
  rintro e w2 ⟨rfl, k2⟩
  have K2 : Hid (Kept w w2) := K1.out.then k2
  clear k2
  go_wp2_with fail
  refine Calls.mono (RB.out _) ?_
  rintro e w3 ⟨a3, n3, q3, a4, n4, q4, rfl, H⟩
  have CK2 : Hid (∀ W, Kept w3 W → Calls Try.prog 10 #[.agg #[.slice a3 n3 q3, .slice a4 n4 q4]] W fun e w' => e = .returned (.tuple #[.complex .f64 4607182418800017408 4622945017495814144, .int .i64 4]) ∧ Kept W w') := H.out.2.1
  have K3 : Hid (Kept w w3) := K2.out.then H.out.1
  clear H
  go_wp2_with fail
  refine Calls.mono (CK2.out _ (Kept.refl _)) ?_
  rintro e w4 ⟨rfl, k4⟩
  have K4 : Hid (Kept w w4) := K3.out.then k4
  clear k4
  go_wp2_with fail
  go_ret
  exact ⟨rfl, K4.out⟩
end Go.Proofs.Ytnfkjmafhaecgaa
