/- Sh -/
import Derived.Test.YtbfikeegacapjaaWLn

namespace Go.Proofs.Ytbfikeegacapjaa
open Go.RowKit
attribute [local go_sem] run_store_complex
theorem dtexts_take (l : List Dc) (k : Nat) (h : k < l.length) : Ps.dtexts (l.take (k + 1)) = Ps.dtexts (l.take k) ++ Ps.dtext l[k] := by
  rw [List.take_succ_eq_append_getElem h]; unfold Ps.dtexts; rw [List.flatMap_append]; simp
theorem ttexts_take (l : List (List St)) (k : Nat) (h : k < l.length) : Ps.ttexts (l.take (k + 1)) = Ps.ttexts (l.take k) ++ Ps.ttext l[k] := by
  rw [List.take_succ_eq_append_getElem h]; unfold Ps.ttexts; rw [List.flatMap_append]; simp
theorem dtexts_take_le (l : List Dc) (k : Nat) : (Ps.dtexts (l.take k)).length ≤ (Ps.dtexts l).length := by
  have : Ps.dtexts l = Ps.dtexts (l.take k) ++ Ps.dtexts (l.drop k) := by unfold Ps.dtexts; rw [← List.flatMap_append, List.take_append_drop]
  rw [this, List.length_append]; omega
theorem ttexts_take_le (l : List (List St)) (k : Nat) : (Ps.ttexts (l.take k)).length ≤ (Ps.ttexts l).length := by
  have : Ps.ttexts l = Ps.ttexts (l.take k) ++ Ps.ttexts (l.drop k) := by unfold Ps.ttexts; rw [← List.flatMap_append, List.take_append_drop]
  rw [this, List.length_append]; omega
theorem dw_index (k : Nat) (h1 : 1 ≤ k) (h2 : k ≤ 6) (w : World) : (Instr.index 42 (.agg #[.string ⟨#[]⟩, .string ⟨#[118, 97, 114]⟩, .string ⟨#[119, 105, 100, 101]⟩, .string ⟨#[97, 116, 111, 109, 105, 99]⟩, .string ⟨#[108, 111, 99, 97, 108]⟩, .string ⟨#[109, 117, 116, 101, 120]⟩, .string ⟨#[99, 104, 97, 110]⟩]) (.int .i64 (k : Int))).run Try.prog w = .ok (.string (Px.ba (Ps.dw (k : Int)))) w := by
  have h9 := Try.sizeOf9
  have ha := Try.isAgg9
  match k, h1, h2 with
  | 1, _, _ | 2, _, _ | 3, _, _ | 4, _, _ | 5, _, _ | 6, _, _ => simp [Instr.index, go_sem, h9, ha, Ps.dw, Px.ba]
theorem dw_len (k : Int) : (Ps.dw k).length ≤ 6 := by unfold Ps.dw; repeat' split
                                                      all_goals decide
theorem GdD.facts {x : Dc} (h : Ps.GdD x) : ∃ (k n : Nat) (nm : List UInt8), x.kind = (k : Int) ∧ x.n = (n : Int) ∧ x.name = Px.ba nm ∧ 1 ≤ k ∧ k ≤ 6 ∧ n ≤ 3 ∧ nm.length ≤ 12 ∧ (k ≠ 6 → n = 0) := by
  cases h with
  | plain k a p q h1 h5 ha => exact ⟨k, 0, a, rfl, rfl, rfl, h1, by omega, by omega, Ps.nm_len ha, fun _ => rfl⟩
  | chan n a p q hn ha => exact ⟨6, n, a, rfl, rfl, rfl, by omega, by omega, hn, Ps.nm_len ha, fun h => absurd rfl h⟩
theorem dtext_of {x : Dc} {k n : Nat} {nm : List UInt8} (hk : x.kind = (k : Int)) (hn : x.n = (n : Int)) (hm : x.name = Px.ba nm) : Ps.dtext x = Ps.dw (k : Int) ++ [32] ++ nm ++ (if k = 6 then [32] ++ Lib.itoa (n : Int) else []) ++ [10] := by
  unfold Ps.dtext
  rw [hk, hn, hm]
  by_cases h : k = 6
  · subst h; rfl
  · rw [if_neg (by omega), if_neg h]; rfl
attribute [local go_sem ↓] add_fit
set_option maxRecDepth 100000 in
set_option maxHeartbeats 4000000 in
theorem showp_any (e : Nat) (he : 1 + e ≤ 20) (ds : List Dc) (ts : List (List St)) (hd : ∀ x ∈ ds, Ps.GdD x) (ht : ∀ b ∈ ts, ∀ s ∈ b, Ps.Gd e s) (hlen : (Ps.shown ds ts).length ≤ 10000) (w : World) (v1 v2 : Value) (h1 : DsIn w 0 w.heap.size ds v1) (h2 : TsIn w 0 w.heap.size ts v2) :
    Calls Try.prog 10 #[.agg #[v1, v2]] w fun r w' => r = .returned (.string (Px.ba (Ps.shown ds ts))) ∧ Kept w w' := by
  have H1 : Hid _ := h1
  have H2 : Hid _ := h2
  have HD : Hid (∀ x ∈ ds, Ps.GdD x) := hd
  have HT : Hid (∀ b ∈ ts, ∀ s ∈ b, Ps.Gd e s) := ht
  obtain ⟨a1, q1, rfl, l1, l2, l3⟩ := h1.open
  obtain ⟨a2, q2, rfl, m1, m2, m3⟩ := h2.open
  have hlen2 : (Ps.dtexts ds).length + (Ps.ttexts ts).length ≤ 10000 := by unfold Ps.shown at hlen; rw [List.length_append] at hlen; exact hlen
  clear h1 h2 hd ht hlen
  go_enter Try.func10, Try.ntmps10
  go_wp2_with fail
  obtain ⟨W0, hW0⟩ : ∃ W0, w.alloc (.cells #[.slice a1 ds.length q1, .slice a2 ts.length q2] 27) = W0 := ⟨_, rfl⟩
  have KW : Hid (Kept w W0) := by rw [← hW0]; exact (Kept.refl _).al _
  have x0 : W0.cell? ⟨w.heap.size, 0, none⟩ = some (.slice a1 ds.length q1) := by rw [← hW0]; simp
  have x1 : W0.cell? ⟨w.heap.size, 1, none⟩ = some (.slice a2 ts.length q2) := by rw [← hW0]; simp
  have hzW : w.heap.size < W0.heap.size := by rw [← hW0]; simp
  rw [hW0]
  clear hW0
  go_loopw [3, 4] (fun out i wr => ∃ k : Nat, k ≤ ds.length ∧ i = .int .i64 (k : Int) ∧ out = .string (Px.ba (Ps.dtexts (ds.take k))) ∧ Hid (Kept W0 wr)) (fun _ i _ => ds.length - (intOf i).toNat)
  case atStart => exact ⟨0, Nat.zero_le _, rfl, rfl, Kept.refl _⟩
  case round =>
    obtain ⟨k, hk, rfl, rfl, HB⟩ := hrel
    have r0 := HB.out.cellS x0
    have r1 := HB.out.cellS x1
    have hzr : w.heap.size < wr.heap.size := Nat.lt_of_lt_of_le hzW HB.out.size
    by_cases hlt : k < ds.length
    · have hki : (k : Int) < (ds.length : Int) := by omega
      have HBw : Hid (Kept w wr) := KW.out.then HB.out
      obtain ⟨b, o, rfl, _, hb, _, c0, c1, c2, c3⟩ := H1.out.item (HBw.out.stays (Nat.le_refl _)) k hlt
      obtain ⟨kd, n, nm, f1, f2, f3, g1, g2, g3, g4, g5⟩ := GdD.facts (HD.out _ (List.getElem_mem hlt))
      have HTX : Hid _ := dtexts_take ds k hlt
      have hln := dtexts_take_le ds (k + 1)
      rw [HTX.out, List.length_append] at hln
      have HDT : Hid _ := dtext_of f1 f2 f3
      rw [f1] at c0
      rw [f3] at c1
      rw [f2] at c2
      have hzb : b < wr.heap.size := by have := HBw.out.size; omega
      have hix := dw_index kd g1 g2
      have k1 : ¬ (kd : Int) < 1 := by omega
      have k6 : ¬ 6 < (kd : Int) := by omega
      clear f1 f2 f3
      go_wp2_with fail
      obtain ⟨W1, hW1⟩ : ∃ W1, wr.alloc (.cells #[.int .i64 (kd : Int), .string (Px.ba nm), .int .i64 (n : Int), .complex .f64 ds[k].re ds[k].im] 38) = W1 := ⟨_, rfl⟩
      have KW1 : Hid (Kept wr W1) := by rw [← hW1]; exact (Kept.refl _).al _
      have e0 : W1.cell? ⟨wr.heap.size, 0, none⟩ = some (.int .i64 (kd : Int)) := by rw [← hW1]; simp
      have e1 : W1.cell? ⟨wr.heap.size, 1, none⟩ = some (.string (Px.ba nm)) := by rw [← hW1]; simp
      have e2 : W1.cell? ⟨wr.heap.size, 2, none⟩ = some (.int .i64 (n : Int)) := by rw [← hW1]; simp
      have hz1 : wr.heap.size < W1.heap.size := by rw [← hW1]; simp
      rw [hW1]
      clear hW1 c0 c1 c2 c3
      have s1 : (Px.ba (Ps.dtexts (ds.take k))).size ≤ 10000 := by rw [Px.ba_size]; omega
      have s2 : (Px.ba (Ps.dw (kd : Int))).size ≤ 6 := by rw [Px.ba_size]; exact dw_len _
      have s3 : (Px.ba nm).size ≤ 12 := by rw [Px.ba_size]; exact g4
      have HE1 : Hid (((Px.ba (Ps.dtexts (ds.take k)) ++ Px.ba (Ps.dw (kd : Int))) ++ ⟨#[32]⟩) ++ Px.ba nm = Px.ba (Ps.dtexts (ds.take k) ++ (Ps.dw (kd : Int) ++ [32] ++ nm))) := by
        show _ = _
        rw [show (⟨#[32]⟩ : ByteArray) = Px.ba [32] from rfl, Px.ba_app, Px.ba_app, Px.ba_app]
        congr 1
        simp
      have HE2 : Hid (Px.ba (Ps.dtexts (ds.take (k + 1))) = Px.ba ((Ps.dtexts (ds.take k) ++ (Ps.dw (kd : Int) ++ [32] ++ nm)) ++ ((if kd = 6 then [32] ++ Lib.itoa (n : Int) else []) ++ [10]))) := by
        show _ = _
        rw [HTX.out, HDT.out]
        congr 1
        simp
      clear HTX hln HDT
      generalize Px.ba (Ps.dtexts (ds.take k)) = S1 at *
      generalize Px.ba (Ps.dw (kd : Int)) = S2 at *
      generalize Px.ba nm = S3 at *
      have y1 : (S1 ++ S2).size ≤ 10006 := by rw [ByteArray.size_append]; omega
      have y2 : ((S1 ++ S2) ++ ⟨#[32]⟩).size ≤ 10007 := by rw [ByteArray.size_append]; show _ + 1 ≤ _; omega
      have B1 := addf S1 S2 (by omega)
      have B2 := addf (S1 ++ S2) ⟨#[32]⟩ (by show _ + 1 ≤ _; omega)
      have B3 := addf ((S1 ++ S2) ++ ⟨#[32]⟩) S3 (by omega)
      have y3 : (((S1 ++ S2) ++ ⟨#[32]⟩) ++ S3).size ≤ 10019 := by rw [ByteArray.size_append]; omega
      go_region_held3 (fun w' => Hid (Kept W1 w') ∧ w'.cell? ⟨wr.heap.size, 0, none⟩ = some (.int .i64 (kd : Int)) ∧ w'.cell? ⟨wr.heap.size, 1, none⟩ = some (.string S3) ∧ w'.cell? ⟨wr.heap.size, 2, none⟩ = some (.int .i64 (n : Int)))
        ((have KK : Kept W1 _ := (Kept.refl W1).dr; exact ⟨KK, KK.cellS e0, KK.cellS e1, KK.cellS e2⟩))
        (fail)
      obtain ⟨W2, hW2⟩ : ∃ W2, W1.drew = W2 := ⟨_, rfl⟩
      have K12 : Kept W1 W2 := by rw [← hW2]; exact (Kept.refl W1).dr
      rw [hW2]
      have e0 := K12.cellS e0
      have e2 := K12.cellS e2
      have hz2 : wr.heap.size < W2.heap.size := Nat.lt_of_lt_of_le hz1 K12.size
      have KF : Hid (Kept W0 W2) := HB.out.then (KW1.out.then K12)
      rw [HE1.out] at y3 ⊢
      clear hW2 K12 B1 B2 B3 y1 y2 hz1 e1
      by_cases h6 : kd = 6
      · subst h6
        have HDG : Hid (∀ W, Calls Try.prog 27 #[.int .i64 (n : Int)] W fun r w' => r = .returned (.string (dig n)) ∧ Kept W w') := digits_any n (by omega)
        have hds : (dig n).size ≤ 21 := dig_len n (by omega)
        have HE : Hid (((Px.ba (Ps.dtexts (ds.take k) ++ (Ps.dw ((6 : Nat) : Int) ++ [32] ++ nm)) ++ ⟨#[32]⟩) ++ dig n) ++ ⟨#[10]⟩ = Px.ba (Ps.dtexts (ds.take (k + 1)))) := by
          show _ = _
          rw [HE2.out, if_pos rfl, dig_itoa, show (⟨#[32]⟩ : ByteArray) = Px.ba [32] from rfl, show (⟨#[10]⟩ : ByteArray) = Px.ba [10] from rfl, Px.ba_app, Px.ba_app, Px.ba_app]
          congr 1
          simp
        generalize Px.ba (Ps.dtexts (ds.take k) ++ (Ps.dw ((6 : Nat) : Int) ++ [32] ++ nm)) = S4 at *
        generalize dig n = S5 at *
        have y4 : (S4 ++ ⟨#[32]⟩).size ≤ 10020 := by rw [ByteArray.size_append]; show _ + 1 ≤ _; omega
        have y5 : ((S4 ++ ⟨#[32]⟩) ++ S5).size ≤ 10041 := by rw [ByteArray.size_append]; omega
        have B1 := addf S4 ⟨#[32]⟩ (by show _ + 1 ≤ _; omega)
        have B2 := addf (S4 ++ ⟨#[32]⟩) S5 (by omega)
        have B3 := addf ((S4 ++ ⟨#[32]⟩) ++ S5) ⟨#[10]⟩ (by show _ + 1 ≤ _; omega)
        have hn0 : ¬ (n : Int) < 0 := by omega
        clear y4 y5 HE1 HE2
        go_wp2_with fail
        refine (HDG.out _).mono ?_
        rintro r w4 ⟨rfl, kw⟩
        have KF2 : Hid (Kept W0 w4) := KF.out.then kw
        clear kw
        go_wp2_with fail
        go_roundw
        case rel => exact ⟨k + 1, by omega, by go_num, by rw [HE.out], KF2⟩
        case measure => simp [intOf]; omega
      · have k66 : ((kd : Int) == 6) = false := by rw [beq_eq_false_iff_ne]; omega
        have HE : Hid (Px.ba (Ps.dtexts (ds.take k) ++ (Ps.dw (kd : Int) ++ [32] ++ nm)) ++ ⟨#[10]⟩ = Px.ba (Ps.dtexts (ds.take (k + 1)))) := by
          show _ = _
          rw [HE2.out, if_neg h6, show (⟨#[10]⟩ : ByteArray) = Px.ba [10] from rfl, Px.ba_app]
          congr 1
        generalize Px.ba (Ps.dtexts (ds.take k) ++ (Ps.dw (kd : Int) ++ [32] ++ nm)) = S4 at *
        have B1 := addf S4 ⟨#[10]⟩ (by show _ + 1 ≤ _; omega)
        clear HE1 HE2
        go_wp2_with fail
        go_roundw
        case rel => exact ⟨k + 1, by omega, by go_num, by rw [HE.out], KF⟩
        case measure => simp [intOf]; omega
    · have hki : ¬ (k : Int) < (ds.length : Int) := by omega
      have HE0 : Hid (Px.ba (Ps.dtexts (ds.take k)) = Px.ba (Ps.dtexts ds ++ Ps.ttexts (ts.take 0))) := by
        show _ = _
        rw [List.take_of_length_le (by omega)]
        show _ = Px.ba (_ ++ [])
        rw [List.append_nil]
      obtain ⟨w5, hw5⟩ : ∃ W, W = wr := ⟨_, rfl⟩
      have HK5 : Hid (Kept W0 w5) := by rw [hw5]; exact HB.out
      subst hw5
      clear HB hzr
      rw [HE0.out]
      go_wp2_with fail
      go_loopw [3, 6] (fun out i wr => ∃ j : Nat, j ≤ ts.length ∧ i = .int .i64 (j : Int) ∧ out = .string (Px.ba (Ps.dtexts ds ++ Ps.ttexts (ts.take j))) ∧ Hid (Kept W0 wr)) (fun _ i _ => ts.length - (intOf i).toNat)
      case atStart => exact ⟨0, Nat.zero_le _, rfl, rfl, HK5⟩
      case round =>
        obtain ⟨j, hj, rfl, rfl, HB⟩ := hrel
        have t0 := HB.out.cellS x0
        have t1 := HB.out.cellS x1
        have hzr : w.heap.size < wr.heap.size := Nat.lt_of_lt_of_le hzW HB.out.size
        by_cases hlt : j < ts.length
        · have hji : (j : Int) < (ts.length : Int) := by omega
          have HBw : Hid (Kept w wr) := KW.out.then HB.out
          obtain ⟨b, o, a3, n3, q3, rfl, _, hb, _, c0, hst⟩ := H2.out.item (HBw.out.stays (Nat.le_refl _)) j hlt
          have hzw := HBw.out.size
          have hzb : b < wr.heap.size := by omega
          have hln := ttexts_take_le ts (j + 1)
          rw [ttexts_take ts j hlt, List.length_append] at hln
          have hlt2 : (Ps.texts ts[j] 1).length ≤ 10000 := by
            have : (Ps.ttext ts[j]).length = 5 + (Ps.texts ts[j] 1).length + 2 := by unfold Ps.ttext; simp only [List.length_append, List.length_cons, List.length_nil]
            omega
          have LN : Hid (∀ W, Kept wr W → Calls Try.prog 28 #[.slice a3 n3 q3, .int .i64 1] W fun r w' => r = .returned (.string (Px.ba (Ps.texts ts[j] 1))) ∧ Kept W w') := fun W hW => lines_any e ts[j] (HT.out _ (List.getElem_mem hlt)) W _ 1 (StsD.up hst hzw hW) he hlt2
          have HE : Hid (((Px.ba (Ps.dtexts ds ++ Ps.ttexts (ts.take j)) ++ ⟨#[103, 111, 32, 123, 10]⟩) ++ Px.ba (Ps.texts ts[j] 1)) ++ ⟨#[125, 10]⟩ = Px.ba (Ps.dtexts ds ++ Ps.ttexts (ts.take (j + 1)))) := by
            show _ = _
            rw [ttexts_take ts j hlt, show (⟨#[103, 111, 32, 123, 10]⟩ : ByteArray) = Px.ba [103, 111, 32, 123, 10] from rfl, show (⟨#[125, 10]⟩ : ByteArray) = Px.ba [125, 10] from rfl, Px.ba_app, Px.ba_app, Px.ba_app]
            unfold Ps.ttext
            congr 1
            simp
          have z1 : (Px.ba (Ps.dtexts ds ++ Ps.ttexts (ts.take j))).size ≤ 10000 := by rw [Px.ba_size, List.length_append]; omega
          have z2 : (Px.ba (Ps.texts ts[j] 1)).size ≤ 10000 := by rw [Px.ba_size]; exact hlt2
          clear hln hlt2 hst
          generalize Px.ba (Ps.dtexts ds ++ Ps.ttexts (ts.take j)) = S1 at *
          generalize Px.ba (Ps.texts ts[j] 1) = S2 at *
          have y1 : (S1 ++ ⟨#[103, 111, 32, 123, 10]⟩).size ≤ 10005 := by rw [ByteArray.size_append]; show _ + 5 ≤ _; omega
          have y2 : ((S1 ++ ⟨#[103, 111, 32, 123, 10]⟩) ++ S2).size ≤ 20005 := by rw [ByteArray.size_append]; omega
          have B1 := addf S1 ⟨#[103, 111, 32, 123, 10]⟩ (by show _ + 5 ≤ _; omega)
          have B2 := addf (S1 ++ ⟨#[103, 111, 32, 123, 10]⟩) S2 (by omega)
          have B3 := addf ((S1 ++ ⟨#[103, 111, 32, 123, 10]⟩) ++ S2) ⟨#[125, 10]⟩ (by show _ + 2 ≤ _; omega)
          clear y1 y2
          go_wp2_with fail
          refine (LN.out _ (Kept.refl _)).mono ?_
          rintro r w6 ⟨rfl, kw⟩
          have KF : Hid (Kept W0 w6) := HB.out.then kw
          clear kw
          go_wp2_with fail
          go_roundw
          case rel => exact ⟨j + 1, by omega, by go_num, by rw [HE.out], KF⟩
          case measure => simp [intOf]; omega
        · have hji : ¬ (j : Int) < (ts.length : Int) := by omega
          have HE : Hid (Px.ba (Ps.dtexts ds ++ Ps.ttexts (ts.take j)) = Px.ba (Ps.shown ds ts)) := by show _ = _; rw [List.take_of_length_le (by omega)]; rfl
          go_wp2_with fail
          go_ret
          exact ⟨by rw [← HE.out]; rfl, KW.out.then HB.out⟩
end Go.Proofs.Ytbfikeegacapjaa
