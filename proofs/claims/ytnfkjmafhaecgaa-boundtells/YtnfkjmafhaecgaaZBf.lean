/- Bf -/
import Derived.Test.YtnfkjmafhaecgaaZBc
import Derived.Deep.RegionHeld3
import Derived.Deep.QuietTactic

namespace Go.Proofs.Ytnfkjmafhaecgaa
open Go.RowKit Bn
attribute [local go_sem] run_store_complex
/-- What the document's size tells of l. -/
def PRz8 (l : List St) : Prop := ∀ (w : World) (bv : Value), StsIn w 0 w.heap.size l bv → NumL l →
  Calls Try.prog 40 #[bv] w fun r w' => r = .returned (.int .i64 (cap (sns l) : Int)) ∧ Kept w w'
set_option maxRecDepth 100000 in
set_option maxHeartbeats 4000000 in
theorem rsize_of (l : List St) (H : ∀ x ∈ l, PRz8 x.body ∧ PRz8 x.els) : PRz8 l := by
  intro w bv hb hn
  have HA : Hid _ := hb
  have HH : Hid (∀ x ∈ l, PRz8 x.body ∧ PRz8 x.els) := H
  have HN : Hid (NumL l) := hn
  obtain ⟨a, cap', rfl, hl, hl2, hcap⟩ := hb.open
  clear hb H hn
  go_enter Try.func40, Try.ntmps40
  go_wp2_with fail
  go_loopw [3, 4] (fun n i wr => ∃ (k m : Nat), n = .int .i64 (m : Int) ∧ i = .int .i64 (k : Int) ∧ k ≤ l.length ∧ m ≤ 2147483647 ∧ Hid (m = cap (sns (l.take k)) ∧ Kept w wr)) (fun _ i _ => l.length - (intOf i).toNat)
  case atStart => exact ⟨0, 0, rfl, rfl, Nat.zero_le _, by omega, by simp [sns]; rfl, Kept.refl _⟩
  case round =>
    obtain ⟨k, m, rfl, rfl, hk, hm, HI⟩ := hrel
    by_cases hlt : k < l.length
    · have hki : (k : Int) < (l.length : Int) := by omega
      have hz := HI.out.2.size
      obtain ⟨b, o, a1, n1, q1, a2, n2, q2, a3, n3, q3, rfl, _, hb, _, c0, c1, c2, c3, c4, c5, c6, c7, c8, c9, c10, k1, k2, k3⟩ := HA.out.item (HI.out.2.stays (Nat.le_refl _)) k hlt
      have hzb : b < wr.heap.size := by omega
      obtain ⟨o1, o2, o3⟩ := HN.out.own (List.getElem_mem hlt)
      have hes := en_size l[k].e
      have GE : Hid (∀ W, Kept wr W → Calls Try.prog 26 #[.agg #[.int .i64 l[k].e.kind, .int .i64 l[k].e.n, .string l[k].e.name, .slice a1 n1 q1]] W fun r w' => r = .returned (.int .i64 (en l[k].e : Int)) ∧ Kept W w') :=
        fun W hW => rnum_any l[k].e W _ (k1.up hz hW) (Nat.le_trans o1.2.2 (by decide))
      have GB : Hid (∀ W, Kept wr W → Calls Try.prog 40 #[.slice a2 n2 q2] W fun r w' => r = .returned (.int .i64 (cap (sns l[k].body) : Int)) ∧ Kept W w') :=
        fun W hW => (HH.out _ (List.getElem_mem hlt)).1 W _ (k2.up hz hW) o2
      have GL : Hid (∀ W, Kept wr W → Calls Try.prog 40 #[.slice a3 n3 q3] W fun r w' => r = .returned (.int .i64 (cap (sns l[k].els) : Int)) ∧ Kept W w') :=
        fun W hW => (HH.out _ (List.getElem_mem hlt)).2 W _ (k3.up hz hW) o3
      obtain ⟨_, _, e, hls, _, _⟩ := k3.open
      cases e
      obtain ⟨hn1, hn2, hn3⟩ := o1
      clear k1 k2 k3 o2 o3
      have HM : Hid (sns (l.take (k + 1)) = sns (l.take k) + sn l[k]) := sns_take l k hlt
      have HSN := sn_eq l[k]
      obtain ⟨s, hs⟩ : ∃ s, l[k] = s := ⟨_, rfl⟩
      rw [hs] at hls hes GE GB GL hn1 hn2 hn3 HM HSN c0 c1 c2 c3 c4 c5 c6 c9 c10
      clear hs
      obtain ⟨kd, hkd⟩ : ∃ kd, s.kind = kd := ⟨_, rfl⟩
      rw [hkd] at HSN c0
      clear hkd
      have hvB := cap_le (sns s.body)
      have hvL := cap_le (sns s.els)
      obtain ⟨vE, hE⟩ : ∃ v, en s.e = v := ⟨_, rfl⟩
      obtain ⟨vB, hB⟩ : ∃ v, cap (sns s.body) = v := ⟨_, rfl⟩
      obtain ⟨vL, hL⟩ : ∃ v, cap (sns s.els) = v := ⟨_, rfl⟩
      have HE : Hid (en s.e = vE) := hE
      have HB : Hid (cap (sns s.body) = vB) := hB
      have HL : Hid (cap (sns s.els) = vL) := hL
      rw [hE] at GE hes
      rw [hB] at GB hvB
      rw [hL] at GL hvL
      clear hE hB hL
      have hkk : (kd = 1 ∨ kd = 4 ∨ kd = 6) ∨ (kd = 2 ∨ kd = 3 ∨ kd = 9) ∨ kd = 5 ∨ kd = 7 ∨ kd = 8 ∨ (¬ kd = 1 ∧ ¬ kd = 4 ∧ ¬ kd = 6 ∧ ¬ kd = 2 ∧ ¬ kd = 3 ∧ ¬ kd = 9 ∧ ¬ kd = 5 ∧ ¬ kd = 7 ∧ ¬ kd = 8) := by omega
      rcases hkk with h | h | rfl | rfl | rfl | ⟨h1, h4, h6, h2, h3, h9, h5, h7, h8⟩
      · have HZ : Hid (cap (sns (l.take (k + 1))) = cap (m + (1 + vE))) := by
          show _ = _; rw [HM.out, HSN, if_pos h, HI.out.1, cap_addl, HE.out]
        clear HSN HM
        rcases h with rfl | rfl | rfl
        · skip
          go_wp2_with fail
          refine (GE.out _ ((Kept.refl wr).al _)).mono ?_
          rintro r w6 ⟨rfl, kw⟩
          have KF : Hid (Kept w w6) := HI.out.2.then (((Kept.refl wr).al _).then kw)
          have hw1 : IntKind.i64.wrap ((m : Int) + 1 + (vE : Int)) = (m : Int) + 1 + (vE : Int) := by rw [IntKind.wrap_i64]; omega
          clear kw c0 c1 c2 c3 c4 c5 c6 c7 c8 c9 c10
          go_wp2_with fail
          refine ⟨⟨k + 1, cap (m + (1 + vE)), ?_, by go_num, by omega, cap_le _, HZ.out.symm, KF.out⟩, ?_⟩
          · rw [cap_int _ (m + (1 + vE)) (by omega)]
          · simp [intOf]; omega
        · skip
          go_wp2_with fail
          refine (GE.out _ ((Kept.refl wr).al _)).mono ?_
          rintro r w6 ⟨rfl, kw⟩
          have KF : Hid (Kept w w6) := HI.out.2.then (((Kept.refl wr).al _).then kw)
          have hw1 : IntKind.i64.wrap ((m : Int) + 1 + (vE : Int)) = (m : Int) + 1 + (vE : Int) := by rw [IntKind.wrap_i64]; omega
          clear kw c0 c1 c2 c3 c4 c5 c6 c7 c8 c9 c10
          go_wp2_with fail
          refine ⟨⟨k + 1, cap (m + (1 + vE)), ?_, by go_num, by omega, cap_le _, HZ.out.symm, KF.out⟩, ?_⟩
          · rw [cap_int _ (m + (1 + vE)) (by omega)]
          · simp [intOf]; omega
        · skip
          go_wp2_with fail
          refine (GE.out _ ((Kept.refl wr).al _)).mono ?_
          rintro r w6 ⟨rfl, kw⟩
          have KF : Hid (Kept w w6) := HI.out.2.then (((Kept.refl wr).al _).then kw)
          have hw1 : IntKind.i64.wrap ((m : Int) + 1 + (vE : Int)) = (m : Int) + 1 + (vE : Int) := by rw [IntKind.wrap_i64]; omega
          clear kw c0 c1 c2 c3 c4 c5 c6 c7 c8 c9 c10
          go_wp2_with fail
          refine ⟨⟨k + 1, cap (m + (1 + vE)), ?_, by go_num, by omega, cap_le _, HZ.out.symm, KF.out⟩, ?_⟩
          · rw [cap_int _ (m + (1 + vE)) (by omega)]
          · simp [intOf]; omega
      · have HZ : Hid (cap (sns (l.take (k + 1))) = cap (m + 1)) := by
          show _ = _; rw [HM.out, HSN, if_neg (by omega), if_pos h, HI.out.1, cap_addl]
        clear HSN HM
        rcases h with rfl | rfl | rfl
        · go_wp2_with fail
          refine ⟨⟨k + 1, cap (m + 1), ?_, by go_num, by omega, cap_le _, HZ.out.symm, HI.out.2.then ((Kept.refl wr).al _)⟩, ?_⟩
          · rw [cap_int _ (m + 1) (by omega)]
          · simp [intOf]; omega
        · go_wp2_with fail
          refine ⟨⟨k + 1, cap (m + 1), ?_, by go_num, by omega, cap_le _, HZ.out.symm, HI.out.2.then ((Kept.refl wr).al _)⟩, ?_⟩
          · rw [cap_int _ (m + 1) (by omega)]
          · simp [intOf]; omega
        · go_wp2_with fail
          refine ⟨⟨k + 1, cap (m + 1), ?_, by go_num, by omega, cap_le _, HZ.out.symm, HI.out.2.then ((Kept.refl wr).al _)⟩, ?_⟩
          · rw [cap_int _ (m + 1) (by omega)]
          · simp [intOf]; omega
      · have HZ : Hid (cap (sns (l.take (k + 1))) = cap (m + 2)) := by
          show _ = _; rw [HM.out, HSN, if_neg (by omega), if_neg (by omega), if_pos rfl, HI.out.1, cap_addl]
        clear HSN HM
        go_wp2_with fail
        refine ⟨⟨k + 1, cap (m + 2), ?_, by go_num, by omega, cap_le _, HZ.out.symm, HI.out.2.then ((Kept.refl wr).al _)⟩, ?_⟩
        · rw [cap_int _ (m + 2) (by omega)]
        · simp [intOf]; omega
      · have HZ : Hid (cap (sns (l.take (k + 1))) = cap (m + (1 + vE + vB + (if s.els.length = 0 then 0 else 1 + vL)))) := by
          show _ = _
          rw [HM.out, HSN, if_neg (by omega), if_neg (by omega), if_neg (by omega), if_pos rfl, HI.out.1, cap_addl, HE.out]
          have hb := HB.out
          have hl := HL.out
          rw [← hb, ← hl]
          generalize sns (l.take k) = A
          generalize sns s.body = B
          generalize sns s.els = C
          unfold cap; (repeat' split) <;> omega
        clear HSN HM
        go_wp2_with fail
        have e4 : (wr.alloc (.cells #[.int .i64 7, .string s.name, .string s.other, .int .i64 s.n, .int .i64 s.e.kind, .int .i64 s.e.n, .string s.e.name, .slice a1 n1 q1, .slice a2 n2 q2, .slice a3 s.els.length q3, .complex .f64 s.re s.im] 46)).cell? ⟨wr.heap.size, 4, none⟩ = some (.int .i64 s.e.kind) := by simp
        have e5 : (wr.alloc (.cells #[.int .i64 7, .string s.name, .string s.other, .int .i64 s.n, .int .i64 s.e.kind, .int .i64 s.e.n, .string s.e.name, .slice a1 n1 q1, .slice a2 n2 q2, .slice a3 s.els.length q3, .complex .f64 s.re s.im] 46)).cell? ⟨wr.heap.size, 5, none⟩ = some (.int .i64 s.e.n) := by simp
        have e6 : (wr.alloc (.cells #[.int .i64 7, .string s.name, .string s.other, .int .i64 s.n, .int .i64 s.e.kind, .int .i64 s.e.n, .string s.e.name, .slice a1 n1 q1, .slice a2 n2 q2, .slice a3 s.els.length q3, .complex .f64 s.re s.im] 46)).cell? ⟨wr.heap.size, 6, none⟩ = some (.string s.e.name) := by simp
        have e7 : (wr.alloc (.cells #[.int .i64 7, .string s.name, .string s.other, .int .i64 s.n, .int .i64 s.e.kind, .int .i64 s.e.n, .string s.e.name, .slice a1 n1 q1, .slice a2 n2 q2, .slice a3 s.els.length q3, .complex .f64 s.re s.im] 46)).cell? ⟨wr.heap.size, 7, none⟩ = some (.slice a1 n1 q1) := by simp
        have e8 : (wr.alloc (.cells #[.int .i64 7, .string s.name, .string s.other, .int .i64 s.n, .int .i64 s.e.kind, .int .i64 s.e.n, .string s.e.name, .slice a1 n1 q1, .slice a2 n2 q2, .slice a3 s.els.length q3, .complex .f64 s.re s.im] 46)).cell? ⟨wr.heap.size, 8, none⟩ = some (.slice a2 n2 q2) := by simp
        have e9 : (wr.alloc (.cells #[.int .i64 7, .string s.name, .string s.other, .int .i64 s.n, .int .i64 s.e.kind, .int .i64 s.e.n, .string s.e.name, .slice a1 n1 q1, .slice a2 n2 q2, .slice a3 s.els.length q3, .complex .f64 s.re s.im] 46)).cell? ⟨wr.heap.size, 9, none⟩ = some (.slice a3 s.els.length q3) := by simp
        obtain ⟨W1, hW1⟩ : ∃ W1, wr.alloc (.cells #[.int .i64 7, .string s.name, .string s.other, .int .i64 s.n, .int .i64 s.e.kind, .int .i64 s.e.n, .string s.e.name, .slice a1 n1 q1, .slice a2 n2 q2, .slice a3 s.els.length q3, .complex .f64 s.re s.im] 46) = W1 := ⟨_, rfl⟩
        have KW : Hid (Kept wr W1) := by rw [← hW1]; exact (Kept.refl _).al _
        rw [hW1] at e4 e5 e6 e7 e8 e9 ⊢
        clear hW1 c0 c1 c2 c3 c4 c5 c6 c7 c8 c9 c10
        have hw1 : IntKind.i64.wrap ((m : Int) + 1 + (vE : Int)) = (m : Int) + 1 + (vE : Int) := by rw [IntKind.wrap_i64]; omega
        have hw2 : IntKind.i64.wrap ((m : Int) + 1 + (vE : Int) + (vB : Int)) = (m : Int) + 1 + (vE : Int) + (vB : Int) := by rw [IntKind.wrap_i64]; omega
        go_region_held3 (fun w' => Hid (Kept W1 w') ∧ w'.cell? ⟨wr.heap.size, 4, none⟩ = some (.int .i64 s.e.kind) ∧ w'.cell? ⟨wr.heap.size, 5, none⟩ = some (.int .i64 s.e.n) ∧ w'.cell? ⟨wr.heap.size, 6, none⟩ = some (.string s.e.name) ∧ w'.cell? ⟨wr.heap.size, 7, none⟩ = some (.slice a1 n1 q1) ∧ w'.cell? ⟨wr.heap.size, 8, none⟩ = some (.slice a2 n2 q2) ∧ w'.cell? ⟨wr.heap.size, 9, none⟩ = some (.slice a3 s.els.length q3))
          ((first | (have KK : Kept W1 _ := (((Kept.refl W1).dr).then kw).then kw2; exact ⟨KK, KK.cellS e4, KK.cellS e5, KK.cellS e6, KK.cellS e7, KK.cellS e8, KK.cellS e9⟩) | (have KK : Kept W1 _ := ((Kept.refl W1).dr).then kw; exact ⟨KK, KK.cellS e4, KK.cellS e5, KK.cellS e6, KK.cellS e7, KK.cellS e8, KK.cellS e9⟩) | (have KK : Kept W1 _ := (Kept.refl W1).dr; exact ⟨KK, KK.cellS e4, KK.cellS e5, KK.cellS e6, KK.cellS e7, KK.cellS e8, KK.cellS e9⟩)))
          (first | (go_at_call_of 26 (Value.agg #[.int .i64 s.e.kind, .int .i64 s.e.n, .string s.e.name, .slice a1 n1 q1]); refine (GE.out _ (KW.out.then (Kept.refl W1).dr)).mono ?_; rintro e w3 ⟨rfl, kw⟩) | (go_at_call_of 40 (Value.slice a2 n2 q2); refine (GB.out _ (KW.out.then (((Kept.refl W1).dr).then kw))).mono ?_; rintro e w4 ⟨rfl, kw2⟩))
        rename_i hH
        clear hH
        have KX : Hid (Kept wr w4) := KW.out.then ((((Kept.refl W1).dr).then kw).then kw2)
        have e9' : w4.cell? ⟨wr.heap.size, 9, none⟩ = some (.slice a3 s.els.length q3) := ((((Kept.refl W1).dr).then kw).then kw2).cellS e9
        clear kw kw2 e4 e5 e6 e7 e8 e9 KW
        by_cases h0 : s.els.length = 0
        · rw [if_pos h0] at HZ
          have hgt : ¬ ((s.els.length : Int) > 0) := by omega
          go_wp2_with fail
          refine ⟨⟨k + 1, cap (m + (1 + vE + vB + 0)), ?_, by go_num, by omega, cap_le _, HZ.out.symm, HI.out.2.then KX.out⟩, ?_⟩
          · rw [cap_int _ (m + (1 + vE + vB + 0)) (by omega)]
          · simp [intOf]; omega
        · rw [if_neg h0] at HZ
          have hgt : ((s.els.length : Int) > 0) := by omega
          go_wp2_with fail
          refine (GL.out _ KX.out).mono ?_
          rintro r w6 ⟨rfl, kw⟩
          have KF : Hid (Kept w w6) := (HI.out.2.then KX.out).then kw
          clear kw
          go_wp2_with fail
          refine ⟨⟨k + 1, cap (m + (1 + vE + vB + (1 + vL))), ?_, by go_num, by omega, cap_le _, HZ.out.symm, KF.out⟩, ?_⟩
          · rw [cap_int _ (m + (1 + vE + vB + (1 + vL))) (by omega)]
          · simp [intOf]; omega
      · have HZ : Hid (cap (sns (l.take (k + 1))) = cap (m + s.n.toNat * vB)) := by
          show _ = _
          rw [HM.out, HSN, if_neg (by omega), if_neg (by omega), if_neg (by omega), if_neg (by omega), if_pos rfl, HI.out.1, cap_addl, ← HB.out, cap_mulr]
        clear HSN HM
        go_wp2_with fail
        refine (GB.out _ ((Kept.refl wr).al _)).mono ?_
        rintro r w6 ⟨rfl, kw⟩
        have e3 : w6.cell? ⟨wr.heap.size, 3, none⟩ = some (.int .i64 s.n) := kw.cellS (by simp)
        have KF : Hid (Kept w w6) := HI.out.2.then (((Kept.refl wr).al _).then kw)
        clear kw c0 c1 c2 c3 c4 c5 c6 c7 c8 c9 c10
        clear hes hls hn3 HE HB HL GE GB GL hvL
        by_cases h0 : vB = 0
        · have hgt : ¬ ((vB : Int) > 0) := by omega
          subst h0
          clear hn1 hn2
          go_wp2_with fail
          go_quiet (fail)
          go_wp2_with fail
          refine ⟨⟨k + 1, cap (m + s.n.toNat * 0), ?_, by go_num, by omega, cap_le _, HZ.out.symm, KF.out.then ((Kept.refl w6).drN nq)⟩, ?_⟩
          · rw [Nat.mul_zero, Nat.add_zero, cap_id hm]
          · simp [intOf]; omega
        · have hgt : ((vB : Int) > 0) := by omega
          have hgt2 : 0 < vB := by omega
          obtain ⟨q, hq2, HQ, HW2, HW⟩ : ∃ q : Nat, q ≤ 2147483647 ∧ Hid (2147483647 / vB = q) ∧ Hid ((2147483647 : Int) / (vB : Int) = (q : Int)) ∧ Hid (IntKind.i64.wrap (Int.tdiv 2147483647 (vB : Int)) = (q : Int)) :=
            ⟨2147483647 / vB, Nat.div_le_self _ _, rfl, rfl, quo_most vB⟩
          by_cases h4 : 0 < s.n
          · obtain ⟨p, hp⟩ : ∃ p : Nat, s.n = p := ⟨s.n.toNat, by omega⟩
            rw [hp] at e3 HZ h4 hn2
            rw [Int.toNat_natCast] at HZ
            clear hp hn1
            have h4n : 0 < p := by omega
            by_cases h3 : q < p
            · have h3i : (p : Int) > (q : Int) := Int.ofNat_lt.2 h3
              have HP2 : Hid (2147483647 < p * vB) := by
                show _ < _
                rw [← HQ.out] at h3
                exact (Nat.div_lt_iff_lt_mul hgt2).1 h3
              go_wp2_with fail
              go_quiet (fail)
              try simp only [HW2.out]
              go_wp2_with fail
              refine ⟨⟨k + 1, cap (m + p * vB), ?_, by go_num, by omega, cap_le _, HZ.out.symm, KF.out.then ((Kept.refl w6).drN nq)⟩, ?_⟩
              · rw [cap_most (by have := HP2.out; omega)]; rfl
              · simp [intOf]; omega
            · have h3i : ¬ (p : Int) > (q : Int) := fun h => h3 (Int.ofNat_lt.1 h)
              obtain ⟨P, hP⟩ : ∃ P : Nat, p * vB = P := ⟨_, rfl⟩
              have hPi : (vB : Int) * (p : Int) = (P : Int) := by rw [← hP, Int.natCast_mul, Int.mul_comm]
              have hP2 : P ≤ 2147483647 := by
                rw [← hP]
                exact Nat.le_trans (Nat.mul_le_mul_right vB (Nat.le_of_not_lt h3)) (by rw [← HQ.out]; exact Nat.div_mul_le_self 2147483647 vB)
              rw [hP] at HZ
              clear hP
              go_wp2_with fail
              go_quiet (fail)
              try simp only [HW2.out]
              go_wp2_with fail
              refine ⟨⟨k + 1, cap (m + P), ?_, by go_num, by omega, cap_le _, HZ.out.symm, KF.out.then ((Kept.refl w6).drN nq)⟩, ?_⟩
              · rw [cap_int _ (m + P) (by omega)]
              · simp [intOf]; omega
          · have h5 : ¬ (s.n > (q : Int)) := fun h => h4 (Int.lt_of_le_of_lt (Int.natCast_nonneg q) h)
            have h6 : s.n.toNat = 0 := Int.toNat_of_nonpos (Int.not_lt.1 h4)
            rw [h6, Nat.zero_mul] at HZ
            clear h6 hn2
            go_wp2_with fail
            go_quiet (fail)
            try simp only [HW2.out]
            go_wp2_with fail
            refine ⟨⟨k + 1, cap (m + 0), ?_, by go_num, by omega, cap_le _, HZ.out.symm, KF.out.then ((Kept.refl w6).drN nq)⟩, ?_⟩
            · rw [cap_id (by omega), Nat.add_zero]
            · simp [intOf]; omega
      · have HZ : Hid (cap (sns (l.take (k + 1))) = cap (m + 0)) := by
          show _ = _; rw [HM.out, HSN, if_neg (by omega), if_neg (by omega), if_neg (by omega), if_neg (by omega), if_neg (by omega), HI.out.1, cap_addl]
        clear HSN HM
        go_wp2_with fail
        refine ⟨⟨k + 1, cap (m + 0), ?_, by go_num, by omega, cap_le _, HZ.out.symm, HI.out.2.then ((Kept.refl wr).al _)⟩, ?_⟩
        · rw [cap_id (by omega), Nat.add_zero]
        · simp [intOf]; omega
    · have hki : ¬ (k : Int) < (l.length : Int) := by omega
      have HM : Hid (m = cap (sns l)) := by
        have := HI.out.1
        rw [List.take_of_length_le (by omega)] at this
        exact this
      go_wp2_with fail
      go_ret
      exact ⟨ret_int (by rw [HM.out]), HI.out.2⟩
theorem rsize_any (l : List St) : PRz8 l :=
  rsize_of l fun x _ => St.ind (P := fun x => PRz8 x.body ∧ PRz8 x.els) (fun s hb hl => ⟨rsize_of s.body hb, rsize_of s.els hl⟩) x
end Go.Proofs.Ytnfkjmafhaecgaa
