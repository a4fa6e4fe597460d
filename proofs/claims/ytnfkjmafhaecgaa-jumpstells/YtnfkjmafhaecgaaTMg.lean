/- Mg -/
import Derived.Test.YtnfkjmafhaecgaaTMp

namespace Go.Proofs.Ytnfkjmafhaecgaa
open Go.RowKit Jf
open List (getElem_toArray getElem_cons_succ getElem_cons_zero setIfInBounds_toArray)
attribute [local go_sem] run_store_complex
theorem S1 {α} {a b : α} {l : List α} : (a :: l).set 0 b = b :: l := rfl
theorem S2 {α} {a b : α} {l : List α} {n : Nat} : (a :: l).set (n + 1) b = a :: l.set n b := rfl
set_option maxRecDepth 100000 in
set_option maxHeartbeats 4000000 in
theorem rJumps_any (d : List Dc) (t : List (List St)) (w : World) (dv tv : Value) (hd : DsIn w 0 w.heap.size d dv) (ht : TsIn w 0 w.heap.size t tv) (hn : tsz t ≤ 1073741824) (hnb : tnb t ≤ 1073741824) : Calls Try.prog 11 #[.agg #[dv, tv]] w fun e w' => e = .returned (told (chk (spt t 0 0))) ∧ Kept w w' := by
  have RA : Hid (∀ W, Kept w W → Calls Try.prog 33 #[.agg #[dv, tv]] W fun e w' => ∃ v ms, e = .returned v ∧ OwnM w' W.heap.size W.heap.size ms v ∧ ms.map Mk.said = (allA t 0 0 0).map An.said ∧ Kept W w') := fun W hW => rall_any d t W dv tv (hd.up (Nat.le_refl _) hW) (ht.up (Nat.le_refl _) hW) hn hnb
  obtain ⟨ad, capd, rfl, -⟩ := hd.open
  obtain ⟨a, cap, rfl, -⟩ := ht.open
  have HN : Hid (tsz t ≤ 1073741824) := hn
  clear hd ht hn hnb
  go_enter Try.func11, Try.ntmps11
  go_wp2_with fail
  refine (RA.out _ ((Kept.refl _).al _)).mono ?_
  rintro r w1 ⟨v, A, rfl, ho, hm, hk⟩
  have HP : ∀ m ∈ A, m.path ≠ [] := said_paths hm
  have HL : A.length ≤ 1073741824 := by
    have := congrArg List.length hm
    rw [List.length_map, List.length_map, all_len] at this
    have := HN.out; omega
  have HO : Hid (OwnM w1 (w.alloc (.cells #[.slice ad d.length capd, .slice a t.length cap] 27)).heap.size (w.alloc (.cells #[.slice ad d.length capd, .slice a t.length cap] 27)).heap.size A v ∧ (w.alloc (.cells #[.slice ad d.length capd, .slice a t.length cap] 27)).heap.size ≤ w1.heap.size) := ⟨ho, hk.size⟩
  have RT : Hid (∀ W, Kept w1 W → ∀ site : Int, Calls Try.prog 34 #[v, .int .i64 site] W fun e w' => e = .returned (.int .i64 (rtgt A site)) ∧ Kept W w') := fun W hW site => rtarget_any A site W _ _ v (ho.kept hW (Nat.le_trans hk.size (Nat.le_refl _))) (Nat.le_trans hk.size hW.size) HP HL
  obtain ⟨sa, scap, rfl, hsl⟩ := own_slice ho.row
  have HM : Hid (A.map Mk.said = (allA t 0 0 0).map An.said ∧ Kept w w1) := ⟨hm, ((Kept.refl w).al _).then hk⟩
  have hll : (A.length : Int) ≤ 1073741824 := by omega
  clear ho hm hk HP HL RA HN hsl
  -- LOOP
  go_wp2_with fail
  go_loopw [5] (fun iv wr => ∃ i : Nat, iv = .int .i64 (i : Int) ∧ i ≤ A.length ∧ Hid (Kept w1 wr) ∧ Hid (∀ j (hj : j < A.length), j < i → ¬ rbad A j hj)) (fun iv _ => A.length - (intOf iv).toNat)
  case atStart => exact ⟨0, rfl, Nat.zero_le _, Kept.refl _, fun j hj c => absurd c (by omega)⟩
  case round =>
    obtain ⟨i, rfl, hi, HK, HN⟩ := hrel
    by_cases hlt : i < A.length
    · have hki : (i : Int) < (A.length : Int) := by omega
      obtain ⟨g, o, b1, m1, r1, b2, m2, r2, b3, m3, r3, b4, r4, rfl, c0, c1, c2, c3, c4, c5, c6, c7, c8, c9, c10, c11, c12, cl, cr⟩ := (HO.out.1.kept HK.out HO.out.2).item i hlt
      clear cr
      have HBAD : Hid (rbad A i hlt → told (chk (spt t 0 0)) = .tuple #[.complex .f64 A[i].it.s.re A[i].it.s.im, .int .i64 4]) := fun hb => by
        rw [← rj_chk t A HM.out.1 (some (A[i].it.s.re, A[i].it.s.im)) ⟨fun e => (by cases e), fun x e => ⟨i, hlt, hb, fun j hj => HN.out j (by omega) hj, (Option.some.inj e).symm⟩⟩]; rfl
      go_upto_region 6 with fail
      obtain ⟨W2, hW2⟩ : ∃ W, wr.alloc (.cells #[.int .i64 A[i].it.s.kind, .string A[i].it.s.name, .string A[i].it.s.other, .int .i64 A[i].it.s.n, .int .i64 A[i].it.s.e.kind, .int .i64 A[i].it.s.e.n, .string A[i].it.s.e.name, .slice b1 m1 r1, .slice b2 m2 r2, .slice b3 m3 r3, .complex .f64 A[i].it.s.re A[i].it.s.im, .slice b4 A[i].path.length r4, .int .i64 (A[i].thr : Int)] 68) = W := ⟨_, rfl⟩
      obtain ⟨D, hD⟩ : ∃ D, wr.heap.size = D := ⟨_, rfl⟩
      have HKB : Hid (Kept w1 W2 ∧ BoxS W2 D [.int .i64 A[i].it.s.kind, .string A[i].it.s.name, .string A[i].it.s.other, .int .i64 A[i].it.s.n, .int .i64 A[i].it.s.e.kind, .int .i64 A[i].it.s.e.n, .string A[i].it.s.e.name, .slice b1 m1 r1, .slice b2 m2 r2, .slice b3 m3 r3, .complex .f64 A[i].it.s.re A[i].it.s.im, .slice b4 A[i].path.length r4, .int .i64 (A[i].thr : Int)]) := ⟨by rw [← hW2]; exact HK.out.al _, by rw [← hW2, ← hD]; exact box_newQ _ _ _⟩
      rw [hW2, hD]
      clear hW2 hD c0 c1 c2 c3 c4 c5 c6 c7 c8 c9 c10 c11 c12 cl
      have bd := HKB.out.2
      have d0 := bd.cell 0 rfl
      have d10 := bd.cell 10 rfl
      have dl := bd.lt
      clear bd
      by_cases h9 : A[i].it.s.kind = 9
      · have PT := RT.out W2 HKB.out.1 (i : Int)
        have PT : Hid _ := PT
        by_cases hneg : rtgt A (i : Int) < 0
        · have HF : Hid (told (chk (spt t 0 0)) = .tuple #[.complex .f64 A[i].it.s.re A[i].it.s.im, .int .i64 4]) := HBAD.out (.inl ⟨h9, hneg⟩)
          clear HBAD
          go_wp2_with fail
          refine Calls.mono PT.out ?_
          rintro r w5 ⟨rfl, k5⟩
          have e10 : w5.cell? ⟨D, 10, none⟩ = some (.complex .f64 A[i].it.s.re A[i].it.s.im) := k5.cellS d10
          have HKR : Hid (Kept w w5) := HM.out.2.then (HKB.out.1.then k5)
          have dl5 : D < w5.heap.size := Nat.lt_of_lt_of_le dl k5.size
          clear k5
          go_wp2_with fail
          go_ret2
          exact ⟨by rw [HF.out]; rfl, HKR.out⟩
        · have HNI : Hid (∀ j (hj : j < A.length), j < i + 1 → ¬ rbad A j hj) := fun j hj hji => by
            rcases Nat.lt_or_ge j i with c | c
            · exact HN.out j hj c
            · obtain rfl : j = i := by omega
              rintro (c | c)
              · exact hneg c.2
              · rw [h9] at c; exact absurd c.1 (by decide)
          have hnn : ¬ (rtgt A (i : Int) < 0) := hneg
          clear HBAD
          go_wp2_with fail
          refine Calls.mono PT.out ?_
          rintro r w5 ⟨rfl, k5⟩
          have hb5 : BoxS w5 D [.int .i64 A[i].it.s.kind, .string A[i].it.s.name, .string A[i].it.s.other, .int .i64 A[i].it.s.n, .int .i64 A[i].it.s.e.kind, .int .i64 A[i].it.s.e.n, .string A[i].it.s.e.name, .slice b1 m1 r1, .slice b2 m2 r2, .slice b3 m3 r3, .complex .f64 A[i].it.s.re A[i].it.s.im, .slice b4 A[i].path.length r4, .int .i64 (A[i].thr : Int)] := HKB.out.2.kept k5
          have HKB : Hid (Kept w1 w5 ∧ BoxS w5 D [.int .i64 9, .string A[i].it.s.name, .string A[i].it.s.other, .int .i64 A[i].it.s.n, .int .i64 A[i].it.s.e.kind, .int .i64 A[i].it.s.e.n, .string A[i].it.s.e.name, .slice b1 m1 r1, .slice b2 m2 r2, .slice b3 m3 r3, .complex .f64 A[i].it.s.re A[i].it.s.im, .slice b4 A[i].path.length r4, .int .i64 (A[i].thr : Int)]) := ⟨HKB.out.1.then k5, by rw [← h9]; exact hb5⟩
          clear k5 hb5 d0 d10 dl
          go_wp2_with fail
          go_loopw [7] (fun kx wv => kx = .int .i64 0 ∧ Hid (Kept w1 wv ∧ BoxS wv D [.int .i64 9, .string A[i].it.s.name, .string A[i].it.s.other, .int .i64 A[i].it.s.n, .int .i64 A[i].it.s.e.kind, .int .i64 A[i].it.s.e.n, .string A[i].it.s.e.name, .slice b1 m1 r1, .slice b2 m2 r2, .slice b3 m3 r3, .complex .f64 A[i].it.s.re A[i].it.s.im, .slice b4 A[i].path.length r4, .int .i64 (A[i].thr : Int)])) (fun _ _ => 0)
          case atStart => exact ⟨rfl, HKB.out⟩
          case round =>
            obtain ⟨rfl, HKB2⟩ := hrel
            have bd2 := HKB2.out.2
            have z0 := bd2.cell 0 rfl
            have zl := bd2.lt
            clear bd2
            by_cases hi0 : i = 0
            · subst hi0
              go_wp2_with fail
              go_roundw
              case rel => exact ⟨1, by go_num, by omega, HKB2.out.1, HNI.out⟩
              case measure => simp [intOf]; omega
            · have hi1 : (0 : Int) < (i : Int) := by omega
              go_wp2_with fail
              go_roundw
              case rel => exact ⟨i + 1, by go_num, by omega, HKB2.out.1, HNI.out⟩
              case measure => simp [intOf]; omega
      · have h9' : (A[i].it.s.kind == 9) = false := by simpa using h9
        by_cases h10 : A[i].it.s.kind = 10
        · have h10i : (A[i].it.s.kind == 10) = true := by rw [h10]; rfl
          go_wp2_with fail
          clear dl d0 d10
          go_loopw [7] (fun kx wr => ∃ k : Nat, kx = .int .i64 (k : Int) ∧ k ≤ i ∧ Hid (Kept w1 wr ∧ BoxS wr D [.int .i64 10, .string A[i].it.s.name, .string A[i].it.s.other, .int .i64 A[i].it.s.n, .int .i64 A[i].it.s.e.kind, .int .i64 A[i].it.s.e.n, .string A[i].it.s.e.name, .slice b1 m1 r1, .slice b2 m2 r2, .slice b3 m3 r3, .complex .f64 A[i].it.s.re A[i].it.s.im, .slice b4 A[i].path.length r4, .int .i64 (A[i].thr : Int)]) ∧ Hid (∀ j (hj : j < i), j < k → ¬ (A[j].it.s.kind = 10 ∧ A[j].it.s.name = A[i].it.s.name ∧ A[j].thr = A[i].thr))) (fun kx _ => i - (intOf kx).toNat)
          case atStart => exact ⟨0, rfl, Nat.zero_le _, ⟨HKB.out.1, by rw [← h10]; exact HKB.out.2⟩, fun j hj c => absurd c (by omega)⟩
          case round =>
            obtain ⟨k, rfl, hk, HKB2, HNK0⟩ := hrel
            have bd2 := HKB2.out.2
            have z0 := bd2.cell 0 rfl
            have z1 := bd2.cell 1 rfl
            have z10 := bd2.cell 10 rfl
            have z12 := bd2.cell 12 rfl
            have zl := bd2.lt
            clear bd2
            by_cases hki2 : k < i
            · have hkii : (k : Int) < (i : Int) := by omega
              have hkl : (k : Int) < (A.length : Int) := by omega
              have hklt : k < A.length := by omega
              obtain ⟨g', o', p1, u1, s1, p2, u2, s2, p3, u3, s3, p4, s4, e, y0, y1, y2, y3, y4, y5, y6, y7, y8, y9, y10, y11, y12, yl, yr⟩ := (HO.out.1.kept HKB2.out.1 HO.out.2).item k hklt
              cases e
              clear yr y2 y3 y4 y5 y6 y7 y8 y9 y10 y11
              have HK3 : Hid (Kept w1 wr ∧ BoxS wr D [.int .i64 10, .string A[i].it.s.name, .string A[i].it.s.other, .int .i64 A[i].it.s.n, .int .i64 A[i].it.s.e.kind, .int .i64 A[i].it.s.e.n, .string A[i].it.s.e.name, .slice b1 m1 r1, .slice b2 m2 r2, .slice b3 m3 r3, .complex .f64 A[i].it.s.re A[i].it.s.im, .slice b4 A[i].path.length r4, .int .i64 (A[i].thr : Int)]) := HKB2.out
              go_upto_region 11 with fail
              by_cases hall : A[k].it.s.kind = 10 ∧ A[k].it.s.name = A[i].it.s.name ∧ A[k].thr = A[i].thr
              · obtain ⟨k10, knm, kth⟩ := hall
                have hne : (A[k].it.s.name.toList == A[i].it.s.name.toList) = true := by rw [eqB]; exact decide_eq_true knm
                have hte : ((A[k].thr : Int) == (A[i].thr : Int)) = true := by rw [kth]; simp
                have HF : Hid (told (chk (spt t 0 0)) = .tuple #[.complex .f64 A[i].it.s.re A[i].it.s.im, .int .i64 4]) := HBAD.out (.inr ⟨h10, k, hki2, k10, knm, kth⟩)
                have HKR : Hid (Kept w wr) := HM.out.2.then HK3.out.1
                clear HBAD HKB HKB2 HNK0 HN HK
                refine wp_region_held_drew (S := (fun w' => w'.cell? ⟨D, 1, none⟩ = some (.string A[i].it.s.name) ∧ w'.cell? ⟨D, 12, none⟩ = some (.int .i64 (A[i].thr : Int)) ∧ w'.cell? ⟨g, o + k * 13, none⟩ = some (.int .i64 A[k].it.s.kind) ∧ w'.cell? ⟨g, o + k * 13 + 1, none⟩ = some (.string A[k].it.s.name) ∧ w'.cell? ⟨g, o + k * 13 + 12, none⟩ = some (.int .i64 (A[k].thr : Int)))) (by kernel_rfl) (by go_keep) (fun hHeld => ?_)
                refine tkY (i := 0) (v := ?_) rfl (by kernel_rfl) (by rfl) ?_ ?_; rotate_left; · (intro w hSw; (try dsimp only at hSw); go_simp; try with_reducible rfl)
                simp only [getElem_toArray, getElem_cons_zero, Act.put, setIfInBounds_toArray, S1, S2]
                refine tkY (i := 1) (v := ?_) rfl (by kernel_rfl) (by rfl) ?_ ?_; rotate_left; · (intro w hSw; (try dsimp only at hSw); go_simp; try with_reducible rfl)
                simp only [getElem_toArray, getElem_cons_succ, getElem_cons_zero, Act.put, setIfInBounds_toArray, S1, S2]
                refine tkY (i := 2) (v := ?_) rfl (by kernel_rfl) (by rfl) ?_ ?_; rotate_left; · (intro w hSw; (try dsimp only at hSw); go_simp; try with_reducible rfl)
                simp only [getElem_toArray, getElem_cons_succ, getElem_cons_zero, Act.put, setIfInBounds_toArray, S1, S2]
                refine tkY (i := 3) (v := ?_) rfl (by kernel_rfl) (by rfl) ?_ ?_; rotate_left; · (intro w hSw; (try dsimp only at hSw); go_simp; try with_reducible rfl)
                simp only [getElem_toArray, getElem_cons_succ, getElem_cons_zero, Act.put, setIfInBounds_toArray, S1, S2]
                refine tkY (i := 4) (v := ?_) rfl (by kernel_rfl) (by rfl) ?_ ?_; rotate_left; · (intro w hSw; (try dsimp only at hSw); go_simp; try with_reducible rfl)
                simp only [getElem_toArray, getElem_cons_succ, getElem_cons_zero, Act.put, setIfInBounds_toArray, S1, S2]
                refine tkY (i := 5) (v := ?_) rfl (by kernel_rfl) (by rfl) ?_ ?_; rotate_left; · (intro w hSw; (try dsimp only at hSw); go_simp; try with_reducible rfl)
                simp only [getElem_toArray, getElem_cons_succ, getElem_cons_zero, Act.put, setIfInBounds_toArray, S1, S2]
                refine tkY (i := 6) (v := ?_) rfl (by kernel_rfl) (by rfl) ?_ ?_; rotate_left; · (intro w hSw; (try dsimp only at hSw); go_simp; try with_reducible rfl)
                simp only [getElem_toArray, getElem_cons_succ, getElem_cons_zero, Act.put, setIfInBounds_toArray, S1, S2]
                refine tkY (i := 7) (v := ?_) rfl (by kernel_rfl) (by rfl) ?_ ?_; rotate_left; · (intro w hSw; (try dsimp only at hSw); go_simp; try with_reducible rfl)
                simp only [getElem_toArray, getElem_cons_succ, getElem_cons_zero, Act.put, setIfInBounds_toArray, S1, S2]
                refine tkY (i := 8) (v := ?_) rfl (by kernel_rfl) (by rfl) ?_ ?_; rotate_left; · (intro w hSw; (try dsimp only at hSw); go_simp; try with_reducible rfl)
                simp only [getElem_toArray, getElem_cons_succ, getElem_cons_zero, Act.put, setIfInBounds_toArray, S1, S2]
                refine tkY (i := 9) (v := ?_) rfl (by kernel_rfl) (by rfl) ?_ ?_; rotate_left; · (intro w hSw; (try dsimp only at hSw); go_simp; try with_reducible rfl)
                simp only [getElem_toArray, getElem_cons_succ, getElem_cons_zero, Act.put, setIfInBounds_toArray, S1, S2]
                refine tkY (i := 10) (v := ?_) rfl (by kernel_rfl) (by rfl) ?_ ?_; rotate_left; · (intro w hSw; (try dsimp only at hSw); go_simp; try with_reducible rfl)
                simp only [getElem_toArray, getElem_cons_succ, getElem_cons_zero, Act.put, setIfInBounds_toArray, S1, S2]
                refine tkY (i := 11) (v := ?_) rfl (by kernel_rfl) (by rfl) ?_ ?_; rotate_left; · (intro w hSw; (try dsimp only at hSw); go_simp; try with_reducible rfl)
                simp only [getElem_toArray, getElem_cons_succ, getElem_cons_zero, Act.put, setIfInBounds_toArray, S1, S2]
                refine tkY (i := 12) (v := ?_) rfl (by kernel_rfl) (by rfl) ?_ ?_; rotate_left; · (intro w hSw; (try dsimp only at hSw); go_simp; try with_reducible rfl)
                simp only [getElem_toArray, getElem_cons_succ, getElem_cons_zero, Act.put, setIfInBounds_toArray, S1, S2]
                refine tkY (i := 13) (v := ?_) rfl (by kernel_rfl) (by rfl) ?_ ?_; rotate_left; · (intro w hSw; (try dsimp only at hSw); go_simp; try with_reducible rfl)
                simp only [getElem_toArray, getElem_cons_succ, getElem_cons_zero, Act.put, setIfInBounds_toArray, S1, S2]
                refine tkY (i := 14) (v := ?_) rfl (by kernel_rfl) (by rfl) ?_ ?_; rotate_left; · (intro w hSw; (try dsimp only at hSw); go_simp; try with_reducible rfl)
                simp only [getElem_toArray, getElem_cons_succ, getElem_cons_zero, Act.put, setIfInBounds_toArray, S1, S2]
                refine tkY (i := 15) (v := ?_) rfl (by kernel_rfl) (by rfl) ?_ ?_; rotate_left; · (intro w hSw; (try dsimp only at hSw); go_simp; try with_reducible rfl)
                simp only [getElem_toArray, getElem_cons_succ, getElem_cons_zero, Act.put, setIfInBounds_toArray, S1, S2]
                refine tkY (i := 16) (v := ?_) rfl (by kernel_rfl) (by rfl) ?_ ?_; rotate_left; · (intro w hSw; (try dsimp only at hSw); go_simp; try with_reducible rfl)
                simp only [getElem_toArray, getElem_cons_succ, getElem_cons_zero, Act.put, setIfInBounds_toArray, S1, S2]
                refine tkY (i := 17) (v := ?_) rfl (by kernel_rfl) (by rfl) ?_ ?_; rotate_left; · (intro w hSw; (try dsimp only at hSw); go_simp; try with_reducible rfl)
                simp only [getElem_toArray, getElem_cons_succ, getElem_cons_zero, Act.put, setIfInBounds_toArray, S1, S2]
                refine tkY (i := 18) (v := ?_) rfl (by kernel_rfl) (by rfl) ?_ ?_; rotate_left; · (intro w hSw; (try dsimp only at hSw); go_simp; try with_reducible rfl)
                simp only [getElem_toArray, getElem_cons_succ, getElem_cons_zero, Act.put, setIfInBounds_toArray, S1, S2]
                refine tkY (i := 19) (v := ?_) rfl (by kernel_rfl) (by rfl) ?_ ?_; rotate_left; · (intro w hSw; (try dsimp only at hSw); go_simp; try with_reducible rfl)
                simp only [getElem_toArray, getElem_cons_succ, getElem_cons_zero, Act.put, setIfInBounds_toArray, S1, S2]
                refine tkY (i := 20) (v := ?_) rfl (by kernel_rfl) (by rfl) ?_ ?_; rotate_left; · (intro w hSw; (try dsimp only at hSw); go_simp; try with_reducible rfl)
                simp only [getElem_toArray, getElem_cons_succ, getElem_cons_zero, Act.put, setIfInBounds_toArray, S1, S2]
                refine tkY (i := 21) (v := ?_) rfl (by kernel_rfl) (by rfl) ?_ ?_; rotate_left; · (intro w hSw; (try dsimp only at hSw); go_simp; try with_reducible rfl)
                simp only [getElem_toArray, getElem_cons_succ, getElem_cons_zero, Act.put, setIfInBounds_toArray, S1, S2]
                refine tkY (i := 22) (v := ?_) rfl (by kernel_rfl) (by rfl) ?_ ?_; rotate_left; · (intro w hSw; (try dsimp only at hSw); go_simp; try with_reducible rfl)
                simp only [getElem_toArray, getElem_cons_succ, getElem_cons_zero, Act.put, setIfInBounds_toArray, S1, S2]
                refine tkY (i := 23) (v := ?_) rfl (by kernel_rfl) (by rfl) ?_ ?_; rotate_left; · (intro w hSw; (try dsimp only at hSw); go_simp; try with_reducible rfl)
                simp only [getElem_toArray, getElem_cons_succ, getElem_cons_zero, Act.put, setIfInBounds_toArray, S1, S2]
                refine tkY (i := 24) (v := ?_) rfl (by kernel_rfl) (by rfl) ?_ ?_; rotate_left; · (intro w hSw; (try dsimp only at hSw); go_simp; try with_reducible rfl)
                simp only [getElem_toArray, getElem_cons_succ, getElem_cons_zero, Act.put, setIfInBounds_toArray, S1, S2]
                refine tkY (i := 25) (v := ?_) rfl (by kernel_rfl) (by rfl) ?_ ?_; rotate_left; · (intro w hSw; (try dsimp only at hSw); go_simp; try with_reducible rfl)
                simp only [getElem_toArray, getElem_cons_succ, getElem_cons_zero, Act.put, setIfInBounds_toArray, S1, S2]
                refine tkY (i := 26) (v := ?_) rfl (by kernel_rfl) (by rfl) ?_ ?_; rotate_left; · (intro w hSw; (try dsimp only at hSw); go_simp; try with_reducible rfl)
                simp only [getElem_toArray, getElem_cons_succ, getElem_cons_zero, Act.put, setIfInBounds_toArray, S1, S2]
                refine tkY (i := 27) (v := ?_) rfl (by kernel_rfl) (by rfl) ?_ ?_; rotate_left; · (intro w hSw; (try dsimp only at hSw); go_simp; try with_reducible rfl)
                simp only [getElem_toArray, getElem_cons_succ, getElem_cons_zero, Act.put, setIfInBounds_toArray, S1, S2]
                refine tkY (i := 28) (v := ?_) rfl (by kernel_rfl) (by rfl) ?_ ?_; rotate_left; · (intro w hSw; (try dsimp only at hSw); go_simp; try with_reducible rfl)
                simp only [getElem_toArray, getElem_cons_succ, getElem_cons_zero, Act.put, setIfInBounds_toArray, S1, S2]
                refine wpAnyH_done (by kernel_rfl) ?_ _
                go_wp2_with fail
                go_ret2
                exact ⟨by rw [HF.out]; rfl, HKR.out.dr⟩
              · have HNK : Hid (∀ j (hj : j < i), j < k + 1 → ¬ (A[j].it.s.kind = 10 ∧ A[j].it.s.name = A[i].it.s.name ∧ A[j].thr = A[i].thr)) := fun j hj hjk => by
                  rcases Nat.lt_or_ge j k with c | c
                  · exact HNK0.out j hj c
                  · obtain rfl : j = k := by omega
                    exact hall
                have hway : (A[k].it.s.kind == 10) = false ∨ (A[k].it.s.kind = 10 ∧ (A[k].it.s.name.toList == A[i].it.s.name.toList) = false) ∨ (A[k].it.s.kind = 10 ∧ (A[k].it.s.name.toList == A[i].it.s.name.toList) = true ∧ ((A[k].thr : Int) == (A[i].thr : Int)) = false) := by
                  rw [eqB]
                  by_cases h10 : A[k].it.s.kind = 10
                  · by_cases hnm : A[k].it.s.name = A[i].it.s.name
                    · exact .inr (.inr ⟨h10, decide_eq_true hnm, by
                        have : A[k].thr ≠ A[i].thr := fun c => hall ⟨h10, hnm, c⟩
                        simp; omega⟩)
                    · exact .inr (.inl ⟨h10, decide_eq_false hnm⟩)
                  · exact .inl (by simpa using h10)
                clear HBAD HKB HKB2 HNK0 HN HK hall
                rcases hway with k10 | ⟨k10, hne⟩ | ⟨k10, hne, hte⟩
                all_goals
                  refine wp_region_held_drew (S := (fun w' => w'.cell? ⟨D, 1, none⟩ = some (.string A[i].it.s.name) ∧ w'.cell? ⟨D, 12, none⟩ = some (.int .i64 (A[i].thr : Int)) ∧ w'.cell? ⟨g, o + k * 13, none⟩ = some (.int .i64 A[k].it.s.kind) ∧ w'.cell? ⟨g, o + k * 13 + 1, none⟩ = some (.string A[k].it.s.name) ∧ w'.cell? ⟨g, o + k * 13 + 12, none⟩ = some (.int .i64 (A[k].thr : Int)))) (by kernel_rfl) (by go_keep) (fun hHeld => ?_)
                  (refine tkY (i := 0) (v := ?_) rfl (by kernel_rfl) (by rfl) ?_ ?_; rotate_left; · (intro w hSw; (try dsimp only at hSw); go_simp; try with_reducible rfl))
                  simp only [getElem_toArray, getElem_cons_zero, Act.put, setIfInBounds_toArray, S1, S2]
                  (refine tkY (i := 1) (v := ?_) rfl (by kernel_rfl) (by rfl) ?_ ?_; rotate_left; · (intro w hSw; (try dsimp only at hSw); go_simp; try with_reducible rfl))
                  simp only [getElem_toArray, getElem_cons_succ, getElem_cons_zero, Act.put, setIfInBounds_toArray, S1, S2]
                  (refine tkY (i := 2) (v := ?_) rfl (by kernel_rfl) (by rfl) ?_ ?_; rotate_left; · (intro w hSw; (try dsimp only at hSw); go_simp; try with_reducible rfl))
                  simp only [getElem_toArray, getElem_cons_succ, getElem_cons_zero, Act.put, setIfInBounds_toArray, S1, S2]
                  (refine tkY (i := 3) (v := ?_) rfl (by kernel_rfl) (by rfl) ?_ ?_; rotate_left; · (intro w hSw; (try dsimp only at hSw); go_simp; try with_reducible rfl))
                  simp only [getElem_toArray, getElem_cons_succ, getElem_cons_zero, Act.put, setIfInBounds_toArray, S1, S2]
                  (refine tkY (i := 4) (v := ?_) rfl (by kernel_rfl) (by rfl) ?_ ?_; rotate_left; · (intro w hSw; (try dsimp only at hSw); go_simp; try with_reducible rfl))
                  simp only [getElem_toArray, getElem_cons_succ, getElem_cons_zero, Act.put, setIfInBounds_toArray, S1, S2]
                  (refine tkY (i := 5) (v := ?_) rfl (by kernel_rfl) (by rfl) ?_ ?_; rotate_left; · (intro w hSw; (try dsimp only at hSw); go_simp; try with_reducible rfl))
                  simp only [getElem_toArray, getElem_cons_succ, getElem_cons_zero, Act.put, setIfInBounds_toArray, S1, S2]
                  (refine tkY (i := 6) (v := ?_) rfl (by kernel_rfl) (by rfl) ?_ ?_; rotate_left; · (intro w hSw; (try dsimp only at hSw); go_simp; try with_reducible rfl))
                  simp only [getElem_toArray, getElem_cons_succ, getElem_cons_zero, Act.put, setIfInBounds_toArray, S1, S2]
                  (refine tkY (i := 7) (v := ?_) rfl (by kernel_rfl) (by rfl) ?_ ?_; rotate_left; · (intro w hSw; (try dsimp only at hSw); go_simp; try with_reducible rfl))
                  simp only [getElem_toArray, getElem_cons_succ, getElem_cons_zero, Act.put, setIfInBounds_toArray, S1, S2]
                  first | (refine tkY (i := 8) (v := ?_) rfl (by kernel_rfl) (by rfl) ?_ ?_; rotate_left; · (intro w hSw; (try dsimp only at hSw); go_simp; try with_reducible rfl)) | (refine wpAnyH_take (i := 8) (v := undef) rfl (by kernel_rfl) (by kernel_rfl) (by kernel_rfl) (fun _ _ _ h => h) (Or.inr ⟨by rfl, rfl⟩) (by assumption) ?_)
                  simp only [getElem_toArray, getElem_cons_succ, getElem_cons_zero, Act.put, setIfInBounds_toArray, S1, S2]
                  first | (refine tkY (i := 9) (v := ?_) rfl (by kernel_rfl) (by rfl) ?_ ?_; rotate_left; · (intro w hSw; (try dsimp only at hSw); go_simp; try with_reducible rfl)) | (refine wpAnyH_take (i := 9) (v := undef) rfl (by kernel_rfl) (by kernel_rfl) (by kernel_rfl) (fun _ _ _ h => h) (Or.inr ⟨by rfl, rfl⟩) (by assumption) ?_)
                  simp only [getElem_toArray, getElem_cons_succ, getElem_cons_zero, Act.put, setIfInBounds_toArray, S1, S2]
                  first | (refine tkY (i := 10) (v := ?_) rfl (by kernel_rfl) (by rfl) ?_ ?_; rotate_left; · (intro w hSw; (try dsimp only at hSw); go_simp; try with_reducible rfl)) | (refine wpAnyH_take (i := 10) (v := undef) rfl (by kernel_rfl) (by kernel_rfl) (by kernel_rfl) (fun _ _ _ h => h) (Or.inr ⟨by rfl, rfl⟩) (by assumption) ?_)
                  simp only [getElem_toArray, getElem_cons_succ, getElem_cons_zero, Act.put, setIfInBounds_toArray, S1, S2]
                  first | (refine tkY (i := 11) (v := ?_) rfl (by kernel_rfl) (by rfl) ?_ ?_; rotate_left; · (intro w hSw; (try dsimp only at hSw); go_simp; try with_reducible rfl)) | (refine wpAnyH_take (i := 11) (v := undef) rfl (by kernel_rfl) (by kernel_rfl) (by kernel_rfl) (fun _ _ _ h => h) (Or.inr ⟨by rfl, rfl⟩) (by assumption) ?_)
                  simp only [getElem_toArray, getElem_cons_succ, getElem_cons_zero, Act.put, setIfInBounds_toArray, S1, S2]
                  first | (refine tkY (i := 12) (v := ?_) rfl (by kernel_rfl) (by rfl) ?_ ?_; rotate_left; · (intro w hSw; (try dsimp only at hSw); go_simp; try with_reducible rfl)) | (refine wpAnyH_take (i := 12) (v := undef) rfl (by kernel_rfl) (by kernel_rfl) (by kernel_rfl) (fun _ _ _ h => h) (Or.inr ⟨by rfl, rfl⟩) (by assumption) ?_)
                  simp only [getElem_toArray, getElem_cons_succ, getElem_cons_zero, Act.put, setIfInBounds_toArray, S1, S2]
                  first | (refine tkY (i := 13) (v := ?_) rfl (by kernel_rfl) (by rfl) ?_ ?_; rotate_left; · (intro w hSw; (try dsimp only at hSw); go_simp; try with_reducible rfl)) | (refine wpAnyH_take (i := 13) (v := undef) rfl (by kernel_rfl) (by kernel_rfl) (by kernel_rfl) (fun _ _ _ h => h) (Or.inr ⟨by rfl, rfl⟩) (by assumption) ?_)
                  simp only [getElem_toArray, getElem_cons_succ, getElem_cons_zero, Act.put, setIfInBounds_toArray, S1, S2]
                  first | (refine tkY (i := 14) (v := ?_) rfl (by kernel_rfl) (by rfl) ?_ ?_; rotate_left; · (intro w hSw; (try dsimp only at hSw); go_simp; try with_reducible rfl)) | (refine wpAnyH_take (i := 14) (v := undef) rfl (by kernel_rfl) (by kernel_rfl) (by kernel_rfl) (fun _ _ _ h => h) (Or.inr ⟨by rfl, rfl⟩) (by assumption) ?_)
                  simp only [getElem_toArray, getElem_cons_succ, getElem_cons_zero, Act.put, setIfInBounds_toArray, S1, S2]
                  first | (refine tkY (i := 15) (v := ?_) rfl (by kernel_rfl) (by rfl) ?_ ?_; rotate_left; · (intro w hSw; (try dsimp only at hSw); go_simp; try with_reducible rfl)) | (refine wpAnyH_take (i := 15) (v := undef) rfl (by kernel_rfl) (by kernel_rfl) (by kernel_rfl) (fun _ _ _ h => h) (Or.inr ⟨by rfl, rfl⟩) (by assumption) ?_)
                  simp only [getElem_toArray, getElem_cons_succ, getElem_cons_zero, Act.put, setIfInBounds_toArray, S1, S2]
                  first | (refine tkY (i := 16) (v := ?_) rfl (by kernel_rfl) (by rfl) ?_ ?_; rotate_left; · (intro w hSw; (try dsimp only at hSw); go_simp; try with_reducible rfl)) | (refine wpAnyH_take (i := 16) (v := undef) rfl (by kernel_rfl) (by kernel_rfl) (by kernel_rfl) (fun _ _ _ h => h) (Or.inr ⟨by rfl, rfl⟩) (by assumption) ?_)
                  simp only [getElem_toArray, getElem_cons_succ, getElem_cons_zero, Act.put, setIfInBounds_toArray, S1, S2]
                  first | (refine tkY (i := 17) (v := ?_) rfl (by kernel_rfl) (by rfl) ?_ ?_; rotate_left; · (intro w hSw; (try dsimp only at hSw); go_simp; try with_reducible rfl)) | (refine wpAnyH_take (i := 17) (v := undef) rfl (by kernel_rfl) (by kernel_rfl) (by kernel_rfl) (fun _ _ _ h => h) (Or.inr ⟨by rfl, rfl⟩) (by assumption) ?_)
                  simp only [getElem_toArray, getElem_cons_succ, getElem_cons_zero, Act.put, setIfInBounds_toArray, S1, S2]
                  (refine tkY (i := 18) (v := ?_) rfl (by kernel_rfl) (by rfl) ?_ ?_; rotate_left; · (intro w hSw; (try dsimp only at hSw); go_simp; try with_reducible rfl))
                  simp only [getElem_toArray, getElem_cons_succ, getElem_cons_zero, Act.put, setIfInBounds_toArray, S1, S2]
                  (refine tkY (i := 19) (v := ?_) rfl (by kernel_rfl) (by rfl) ?_ ?_; rotate_left; · (intro w hSw; (try dsimp only at hSw); go_simp; try with_reducible rfl))
                  simp only [getElem_toArray, getElem_cons_succ, getElem_cons_zero, Act.put, setIfInBounds_toArray, S1, S2]
                  first | (refine tkY (i := 20) (v := ?_) rfl (by kernel_rfl) (by rfl) ?_ ?_; rotate_left; · (intro w hSw; (try dsimp only at hSw); go_simp; try with_reducible rfl)) | (refine wpAnyH_take (i := 20) (v := undef) rfl (by kernel_rfl) (by kernel_rfl) (by kernel_rfl) (fun _ _ _ h => h) (Or.inr ⟨by rfl, rfl⟩) (by assumption) ?_)
                  simp only [getElem_toArray, getElem_cons_succ, getElem_cons_zero, Act.put, setIfInBounds_toArray, S1, S2]
                  first | (refine tkY (i := 21) (v := ?_) rfl (by kernel_rfl) (by rfl) ?_ ?_; rotate_left; · (intro w hSw; (try dsimp only at hSw); go_simp; try with_reducible rfl)) | (refine wpAnyH_take (i := 21) (v := undef) rfl (by kernel_rfl) (by kernel_rfl) (by kernel_rfl) (fun _ _ _ h => h) (Or.inr ⟨by rfl, rfl⟩) (by assumption) ?_)
                  simp only [getElem_toArray, getElem_cons_succ, getElem_cons_zero, Act.put, setIfInBounds_toArray, S1, S2]
                  first | (refine tkY (i := 22) (v := ?_) rfl (by kernel_rfl) (by rfl) ?_ ?_; rotate_left; · (intro w hSw; (try dsimp only at hSw); go_simp; try with_reducible rfl)) | (refine wpAnyH_take (i := 22) (v := undef) rfl (by kernel_rfl) (by kernel_rfl) (by kernel_rfl) (fun _ _ _ h => h) (Or.inr ⟨by rfl, rfl⟩) (by assumption) ?_)
                  simp only [getElem_toArray, getElem_cons_succ, getElem_cons_zero, Act.put, setIfInBounds_toArray, S1, S2]
                  first | (refine tkY (i := 23) (v := ?_) rfl (by kernel_rfl) (by rfl) ?_ ?_; rotate_left; · (intro w hSw; (try dsimp only at hSw); go_simp; try with_reducible rfl)) | (refine wpAnyH_take (i := 23) (v := undef) rfl (by kernel_rfl) (by kernel_rfl) (by kernel_rfl) (fun _ _ _ h => h) (Or.inr ⟨by rfl, rfl⟩) (by assumption) ?_)
                  simp only [getElem_toArray, getElem_cons_succ, getElem_cons_zero, Act.put, setIfInBounds_toArray, S1, S2]
                  first | (refine tkY (i := 24) (v := ?_) rfl (by kernel_rfl) (by rfl) ?_ ?_; rotate_left; · (intro w hSw; (try dsimp only at hSw); go_simp; try with_reducible rfl)) | (refine wpAnyH_take (i := 24) (v := undef) rfl (by kernel_rfl) (by kernel_rfl) (by kernel_rfl) (fun _ _ _ h => h) (Or.inr ⟨by rfl, rfl⟩) (by assumption) ?_)
                  simp only [getElem_toArray, getElem_cons_succ, getElem_cons_zero, Act.put, setIfInBounds_toArray, S1, S2]
                  first | (refine tkY (i := 25) (v := ?_) rfl (by kernel_rfl) (by rfl) ?_ ?_; rotate_left; · (intro w hSw; (try dsimp only at hSw); go_simp; try with_reducible rfl)) | (refine wpAnyH_take (i := 25) (v := undef) rfl (by kernel_rfl) (by kernel_rfl) (by kernel_rfl) (fun _ _ _ h => h) (Or.inr ⟨by rfl, rfl⟩) (by assumption) ?_)
                  simp only [getElem_toArray, getElem_cons_succ, getElem_cons_zero, Act.put, setIfInBounds_toArray, S1, S2]
                  first | (refine tkY (i := 26) (v := ?_) rfl (by kernel_rfl) (by rfl) ?_ ?_; rotate_left; · (intro w hSw; (try dsimp only at hSw); go_simp; try with_reducible rfl)) | (refine wpAnyH_take (i := 26) (v := undef) rfl (by kernel_rfl) (by kernel_rfl) (by kernel_rfl) (fun _ _ _ h => h) (Or.inr ⟨by rfl, rfl⟩) (by assumption) ?_)
                  simp only [getElem_toArray, getElem_cons_succ, getElem_cons_zero, Act.put, setIfInBounds_toArray, S1, S2]
                  first | (refine tkY (i := 27) (v := ?_) rfl (by kernel_rfl) (by rfl) ?_ ?_; rotate_left; · (intro w hSw; (try dsimp only at hSw); go_simp; try with_reducible rfl)) | (refine wpAnyH_take (i := 27) (v := undef) rfl (by kernel_rfl) (by kernel_rfl) (by kernel_rfl) (fun _ _ _ h => h) (Or.inr ⟨by rfl, rfl⟩) (by assumption) ?_)
                  simp only [getElem_toArray, getElem_cons_succ, getElem_cons_zero, Act.put, setIfInBounds_toArray, S1, S2]
                  (refine tkY (i := 28) (v := ?_) rfl (by kernel_rfl) (by rfl) ?_ ?_; rotate_left; · (intro w hSw; (try dsimp only at hSw); go_simp; try with_reducible rfl))
                  simp only [getElem_toArray, getElem_cons_succ, getElem_cons_zero, Act.put, setIfInBounds_toArray, S1, S2]
                  refine wpAnyH_done (by kernel_rfl) ?_ _
                  go_wp2_with fail
                  go_roundw
                  case rel => exact ⟨k + 1, by go_num, by omega, ⟨HK3.out.1.dr, HK3.out.2.kept (Kept.refl _).dr⟩, HNK.out⟩
                  case measure => simp [intOf]; omega
            · have hkii : ¬ (k : Int) < (i : Int) := by omega
              have HNI : Hid (∀ j (hj : j < A.length), j < i + 1 → ¬ rbad A j hj) := fun j hj hji => by
                rcases Nat.lt_or_ge j i with c | c
                · exact HN.out j hj c
                · obtain rfl : j = i := by omega
                  rintro (c | ⟨c, x, hx, c2⟩)
                  · exact h9 c.1
                  · exact HNK0.out x hx (by omega) c2
              have HKW : Hid (Kept w1 wr) := HKB2.out.1
              clear HBAD HKB HKB2 HNK0 HN HK
              go_wp2_with fail
              go_roundw
              case rel => exact ⟨i + 1, by go_num, by omega, HKW.out, HNI.out⟩
              case measure => simp [intOf]; omega
        · have h10' : (A[i].it.s.kind == 10) = false := by simpa using h10
          have HNI : Hid (∀ j (hj : j < A.length), j < i + 1 → ¬ rbad A j hj) := fun j hj hji => by
            rcases Nat.lt_or_ge j i with c | c
            · exact HN.out j hj c
            · obtain rfl : j = i := by omega
              rintro (c | c)
              · exact h9 c.1
              · exact h10 c.1
          clear HBAD d10
          go_wp2_with fail
          clear d0 dl
          go_loopw [7] (fun kx wv => kx = .int .i64 0 ∧ Hid (Kept w1 wv ∧ BoxS wv D [.int .i64 A[i].it.s.kind, .string A[i].it.s.name, .string A[i].it.s.other, .int .i64 A[i].it.s.n, .int .i64 A[i].it.s.e.kind, .int .i64 A[i].it.s.e.n, .string A[i].it.s.e.name, .slice b1 m1 r1, .slice b2 m2 r2, .slice b3 m3 r3, .complex .f64 A[i].it.s.re A[i].it.s.im, .slice b4 A[i].path.length r4, .int .i64 (A[i].thr : Int)])) (fun _ _ => 0)
          case atStart => exact ⟨rfl, HKB.out⟩
          case round =>
            obtain ⟨rfl, HKB2⟩ := hrel
            have bd2 := HKB2.out.2
            have z0 := bd2.cell 0 rfl
            have zl := bd2.lt
            clear bd2
            by_cases hi0 : i = 0
            · subst hi0
              go_wp2_with fail
              go_roundw
              case rel => exact ⟨1, by go_num, by omega, HKB2.out.1, HNI.out⟩
              case measure => simp [intOf]; omega
            · have hi1 : (0 : Int) < (i : Int) := by omega
              go_wp2_with fail
              go_roundw
              case rel => exact ⟨i + 1, by go_num, by omega, HKB2.out.1, HNI.out⟩
              case measure => simp [intOf]; omega
    · have hki : ¬ (i : Int) < (A.length : Int) := by omega
      have HF : Hid (told (chk (spt t 0 0)) = .tuple #[.complex .f64 0 0, .int .i64 0]) := by
        show _ = _
        rw [← rj_chk t A HM.out.1 none ⟨fun _ j hj => HN.out j hj (by omega), fun x e => (by cases e)⟩]; rfl
      have HKR : Hid (Kept w wr) := HM.out.2.then HK.out
      go_wp2_with fail
      go_ret2
      exact ⟨by rw [HF.out]; rfl, HKR.out⟩
end Go.Proofs.Ytnfkjmafhaecgaa
