/- Bm -/
import Derived.Test.YtnfkjmafhaecgaaVBi
import Derived.Test.YtnfkjmafhaecgaaVBj
import Derived.Test.YtnfkjmafhaecgaaVBl
import Derived.Deep.RegionHeld3

namespace Go.Proofs.Ytnfkjmafhaecgaa
open Go.RowKit Bn
attribute [local go_sem] run_store_complex
theorem acts_nil10 (w : World) (hi : Nat) : ActsR w hi [] (.slice none 0 0) := ⟨none, 0, rfl, Nat.le_refl _, by omega, fun i hi => by simp at hi, fun x hx => by cases hx⟩
set_option maxRecDepth 100000 in
set_option maxHeartbeats 2000000 in
theorem boundAdds_row (how : Int) (la : List Ac) (n : Int) (va : Value) (w : World) (hh1 : -9223372036854775808 ≤ how) (hh2 : how ≤ 9223372036854775807) (ha : ActsR w w.heap.size la va) :
    Calls Try.prog 7 #[.int .i64 how, va, .int .i64 n] w fun e w' => e = .returned (.bool true) ∧ Kept w w' := by
  have KN : Hid (∀ W, Calls Try.prog 21 #[] W fun e w' => e = .returned (.bool true) ∧ Kept W w') := fun W => known10_any W
  have HPA : Hid (Calls Try.prog 9 #[.int .i64 how, va, .slice none 0 0, .slice none 0 0, .int .i64 6] w fun r w' => MadeP w 6 ([] : List Ac).length r w') := prog_any how la [] [] va (.slice none 0 0) (.slice none 0 0) 6 w hh1 hh2 ha (acts_nil10 _ _) (acts_nil10 _ _) (by omega) (by omega)
  obtain ⟨aa, qa, rfl, -⟩ := ha.out
  obtain ⟨p, hp, -, hP⟩ := pick_nat n 10 (by omega) (by omega)
  have PK : Hid (∀ W, Calls Try.prog 16 #[.int .i64 n, .int .i64 10] W fun e w' => e = .returned (.int .i64 (p : Int)) ∧ w' = W) := hP
  clear hh1 hh2 ha hP
  go_enter Try.func7, Try.ntmps7
  go_wp2_with fail
  refine Calls.mono HPA.out ?_
  rintro e w1 ⟨d, t, a1, n1, q1, a2, n2, q2, rfl, H⟩
  obtain ⟨hd, ht, hg, hk⟩ := H.out
  have HG : Hid _ := hg
  have HK : Hid (Kept w w1) := hk
  have HT : Hid (TsIn w1 0 w1.heap.size t (.slice a2 n2 q2)) := ht.mono fun j hj => ⟨Nat.zero_le _, hj.2⟩
  have htl := hg.just (.inl (by omega))
  obtain ⟨_, _, e, _, hl2, hcap⟩ := ht.open
  cases e
  rw [htl] at hl2
  clear HPA H hd ht hg hk
  rw [htl]
  go_wp2_with fail
  refine Calls.mono (PK.out _) ?_
  rintro e w2 ⟨rfl, rfl⟩
  have HW : Hid (Kept w1 (w1.alloc (.cells #[.slice a1 n1 q1, .slice a2 2 q2] 27))) := (Kept.refl _).al _
  have x1 : (w1.alloc (.cells #[.slice a1 n1 q1, .slice a2 2 q2] 27)).cell? ⟨w1.heap.size, 1, none⟩ = some (.slice a2 2 q2) := by simp
  obtain ⟨D, hD⟩ : ∃ D, w1.heap.size = D := ⟨_, rfl⟩
  rw [htl] at HT
  have hst : Stays 0 w1.heap.size w1 (w1.alloc (.cells #[.slice a1 n1 q1, .slice a2 2 q2] 27)) := HW.out.stays (Nat.le_refl _)
  obtain ⟨b, o, a3, n3, q3, rfl, _, hb, _, c0, k1⟩ := HT.out.item hst 0 (by omega)
  obtain ⟨_, _, e, hl3, hl4, hl5⟩ := k1.open
  cases e
  have hb0 : b < D := by omega
  rw [Nat.add_zero] at c0
  obtain ⟨l0, hl0⟩ : ∃ l, t[0] = l := ⟨_, rfl⟩
  rw [hl0] at k1 c0 hl3 hl4
  have HL : Hid (OKs 2 l0 ∧ St.sizes l0 ≤ 16) := by rw [← hl0]; exact HG.out.ok _ (List.getElem_mem _)
  obtain ⟨W1, hW1⟩ : ∃ W, w1.alloc (.cells #[.slice a1 n1 q1, .slice (some ⟨b, o, none⟩) 2 q2] 27) = W := ⟨_, rfl⟩
  rw [hW1] at x1 HW k1 c0 ⊢
  rw [hD] at x1 hb ⊢
  have K0 : Hid (StsIn W1 0 D l0 (.slice a3 l0.length q3)) := by rw [← hD]; exact k1
  have hDW : D < W1.heap.size := by rw [← hD, ← hW1, World.size_alloc]; omega
  clear k1 hW1 hst HT hl0 PK
  have HS := oks_sns HL.out.1 HL.out.2
  have HNL : NumL l0 := oks_num HL.out.1
  obtain ⟨S, hS⟩ : ∃ S, sns l0 = S := ⟨_, rfl⟩
  have HSN : Hid (sns l0 = S) := hS
  rw [hS] at HS
  have hpS : p * S ≤ 9 * 64800 := Nat.mul_le_mul (by omega) HS
  have GS : Hid (Calls Try.prog 18 #[.agg #[.slice none 0 0, .slice (some ⟨W1.heap.size + 1, 0, none⟩) 2 2]] ((W1.alloc (.cells #[.int .i64 8, .string ⟨#[]⟩, .string ⟨#[]⟩, .int .i64 (p : Int), .int .i64 0, .int .i64 0, .string ⟨#[]⟩, .slice none 0 0, .slice a3 l0.length q3, .slice none 0 0, .complex .f64 0 0] 46)).alloc (.cells #[.slice a3 l0.length q3, .slice (some ⟨W1.heap.size, 0, none⟩) 1 1] 34)).drew
      fun r w' => ∃ a cap, r = .returned (.slice a 2 cap) ∧ Hid (NumsR W1 w' [S, p * S] a cap) ∧ Kept W1 w') := by
    have hT := lay_rep p (K0.out.mono (fun j hj => ⟨hj.1, by have := hj.2; omega⟩) : StsIn W1 0 W1.heap.size l0 (.slice a3 l0.length q3))
    have hN : ∀ l ∈ [l0, [repS p l0]], NumL l := by
      intro l hl
      rcases List.mem_cons.1 hl with rfl | hl
      · exact HNL
      · obtain rfl : l = [repS p l0] := by simpa using hl
        intro x hx
        have : x = repS p l0 ∨ x ∈ St.flats l0 := by
          rw [St.flats, St.flat_eq] at hx
          simpa [repS, St.body, St.els, St.flats] using hx
        rcases this with rfl | hx
        · exact ⟨by show _ ≤ (p : Int); omega, by show (p : Int) ≤ _; omega, (by decide : (Ex.mk 0 0 ⟨#[]⟩ []).size ≤ 1073741824)⟩
        · exact HNL x hx
    have hsz : szs [l0, [repS p l0]] = [S, p * S] := by
      show [cap (sns l0), cap (sns [repS p l0])] = _
      rw [repS_sn, hS, cap_id (by omega), cap_id (by omega)]
    refine (bsize_any _ (by simp) hN _ none (some ⟨W1.heap.size + 1, 0, none⟩) 0 0 2 2 (hT.mono fun j hj => ⟨hj.1, ?_⟩)).mono ?_
    · have := hj.2
      show j < ((W1.alloc _).alloc _).heap.size
      rw [World.size_alloc, World.size_alloc]; omega
    · rintro r w' ⟨a, cp, rfl, hr⟩
      rw [hsz] at hr
      have kk : Kept W1 w' := ((((Kept.refl W1).al _).al _).dr).then hr.kept
      exact ⟨a, cp, rfl, ⟨hr.le, hr.big, kk, hr.at_⟩, kk⟩
  clear hS
  go_wp2_with fail
  go_region_held3 (fun w' => Hid (Kept W1 w') ∧ w'.cell? ⟨D, 1, none⟩ = some (.slice (some ⟨b, o, none⟩) 2 q2) ∧ w'.cell? ⟨b, o, none⟩ = some (.slice a3 l0.length q3))
    (first | (exact ⟨kw, kw.cellS x1, kw.cellS c0⟩) | (exact ⟨(Kept.refl W1), ((Kept.refl W1)).cellS x1, ((Kept.refl W1)).cellS c0⟩) | (exact ⟨((Kept.refl W1).al _), (((Kept.refl W1).al _)).cellS x1, (((Kept.refl W1).al _)).cellS c0⟩) | (exact ⟨(((Kept.refl W1).al _).al _), ((((Kept.refl W1).al _).al _)).cellS x1, ((((Kept.refl W1).al _).al _)).cellS c0⟩) | (exact ⟨((((Kept.refl W1).al _).al _).dr), (((((Kept.refl W1).al _).al _).dr)).cellS x1, (((((Kept.refl W1).al _).al _).dr)).cellS c0⟩) | (exact ⟨(((Kept.refl W1).al _).dr), ((((Kept.refl W1).al _).dr)).cellS x1, ((((Kept.refl W1).al _).dr)).cellS c0⟩) | (exact ⟨((Kept.refl W1).dr), (((Kept.refl W1).dr)).cellS x1, (((Kept.refl W1).dr)).cellS c0⟩))
    (first | (go_at_call 18; refine (GS.out).mono ?_; rintro e w5 ⟨ar, cp, rfl, HR, kw⟩))
  rename_i hH
  clear hH GS
  have HKW : Hid (Kept W1 w5) := kw
  have x1' := kw.cellS x1
  have c0' := kw.cellS c0
  clear kw x1 c0
  have hac := HR.out.le
  have hab := HR.out.big
  go_wp2_with fail
  go_loopw [9, 42] (fun sm i wr => ∃ (k m : Nat), sm = .int .i64 (m : Int) ∧ i = .int .i64 (k : Int) ∧ k ≤ l0.length ∧ m ≤ 64800 ∧ Hid (m = sns (l0.take k) ∧ Kept w5 wr)) (fun _ i _ => l0.length - (intOf i).toNat)
  case atStart => exact ⟨0, 0, rfl, rfl, Nat.zero_le _, by omega, rfl, Kept.refl _⟩
  case round =>
    obtain ⟨k, m, rfl, rfl, hk, hm, HI⟩ := hrel
    by_cases hlt : k < l0.length
    · have hki : (k : Int) < (l0.length : Int) := by omega
      have HKr : Hid (Kept W1 wr) := HKW.out.then HI.out.2
      have hz := HKr.out.size
      obtain ⟨b', o', a4, n4, q4, a5, n5, q5, a6, n6, q6, rfl, _, hb', _, e0, e1, e2, e3, e4, e5, e6, e7, e8, e9, e10, k1, k2, k3⟩ := K0.out.item (HKr.out.stays (Nat.le_of_lt hDW)) k hlt
      have hbw : b' < wr.heap.size := by omega
      have hsk : Hid (sn l0[k] + m ≤ 64800 ∧ m + sn l0[k] = sns (l0.take (k + 1))) := by
        have h1 := sns_take l0 k hlt
        have h2 := sns_append (l0.take (k + 1)) (l0.drop (k + 1))
        rw [List.take_append_drop, HSN.out] at h2
        have h3 := HI.out.1
        exact ⟨by omega, by omega⟩
      have hsn1 := hsk.out.1
      have G1 : Hid (Calls Try.prog 18 #[.agg #[.slice none 0 0, .slice (some ⟨wr.heap.size + 2, 0, none⟩) 1 1]] (((wr.alloc (.cells #[.int .i64 l0[k].kind, .string l0[k].name, .string l0[k].other, .int .i64 l0[k].n, .int .i64 l0[k].e.kind, .int .i64 l0[k].e.n, .string l0[k].e.name, .slice a4 n4 q4, .slice a5 n5 q5, .slice a6 n6 q6, .complex .f64 l0[k].re l0[k].im] 46)).alloc (.cells #[.int .i64 l0[k].kind, .string l0[k].name, .string l0[k].other, .int .i64 l0[k].n, .int .i64 l0[k].e.kind, .int .i64 l0[k].e.n, .string l0[k].e.name, .slice a4 n4 q4, .slice a5 n5 q5, .slice a6 n6 q6, .complex .f64 l0[k].re l0[k].im] 46)).alloc (.cells #[.slice (some ⟨wr.heap.size + 1, 0, none⟩) 1 1] 34))
          fun r w' => ∃ a cap, r = .returned (.slice a 1 cap) ∧ Hid (NumsR wr w' [sn l0[k]] a cap)) := by
        have kk : Kept wr (wr.alloc (.cells #[.int .i64 l0[k].kind, .string l0[k].name, .string l0[k].other, .int .i64 l0[k].n, .int .i64 l0[k].e.kind, .int .i64 l0[k].e.n, .string l0[k].e.name, .slice a4 n4 q4, .slice a5 n5 q5, .slice a6 n6 q6, .complex .f64 l0[k].re l0[k].im] 46)) := (Kept.refl _).al _
        have hle : D ≤ wr.heap.size := by omega
        have hT := lay_alone (w := wr.alloc (.cells #[.int .i64 l0[k].kind, .string l0[k].name, .string l0[k].other, .int .i64 l0[k].n, .int .i64 l0[k].e.kind, .int .i64 l0[k].e.n, .string l0[k].e.name, .slice a4 n4 q4, .slice a5 n5 q5, .slice a6 n6 q6, .complex .f64 l0[k].re l0[k].im] 46)) (s := l0[k]) (k1.up hle kk) (k2.up hle kk) (k3.up hle kk)
        rw [World.size_alloc] at hT
        have hN : ∀ l ∈ [[l0[k]]], NumL l := by
          intro l hl
          obtain rfl : l = [l0[k]] := by simpa using hl
          intro x hx
          rw [St.flats, St.flats, List.append_nil] at hx
          exact HNL x (mem_flats.2 ⟨l0[k], List.getElem_mem hlt, hx⟩)
        have hsz : szs [[l0[k]]] = [sn l0[k]] := by
          show [cap (sns [l0[k]])] = _
          rw [show sns [l0[k]] = sn l0[k] by simp [sns], cap_id (by omega)]
        refine (bsize_any _ (by simp) hN _ none (some ⟨wr.heap.size + 2, 0, none⟩) 0 0 1 1 (hT.mono fun j hj => ⟨hj.1, ?_⟩)).mono ?_
        · have := hj.2
          rw [World.size_alloc, World.size_alloc, World.size_alloc]; omega
        · rintro r w' ⟨a, cp, rfl, hr⟩
          rw [hsz] at hr
          exact ⟨a, cp, rfl, ⟨hr.le, hr.big, ((((Kept.refl wr).al _).al _).al _).then hr.kept, hr.at_⟩⟩
      clear k1 k2 k3
      go_wp2_with fail
      refine Calls.mono G1.out ?_
      rintro r w6 ⟨ar', cp', rfl, HR'⟩
      have hc1 := HR'.out.le
      have hc2 := HR'.out.big
      obtain ⟨g', rfl, cx⟩ := HR'.out.at_ 0 (by simp)
      have cx' : w6.cell? ⟨g', 0, none⟩ = some (.int .i64 (sn l0[k] : Int)) := cx
      have KF : Hid (Kept w5 w6) := HI.out.2.then HR'.out.kept
      clear e0 e1 e2 e3 e4 e5 e6 e7 e8 e9 e10 cx G1
      go_wp2_with fail
      go_roundw
      case rel => exact ⟨k + 1, m + sn l0[k], by go_num, by go_num, by omega, by omega, hsk.out.2, KF.out⟩
      case measure => simp [intOf]; omega
    · have hki : ¬ (k : Int) < (l0.length : Int) := by omega
      obtain rfl : k = l0.length := by omega
      have hmS : m = S := by
        have := HI.out.1
        rw [List.take_of_length_le (Nat.le_refl _), HSN.out] at this
        exact this
      subst hmS
      go_wp2_with fail
      refine (KN.out _).mono ?_
      rintro r w6 ⟨rfl, kw⟩
      have KZ : Hid (Kept w5 w6) := HI.out.2.then kw
      have HRZ := HR.out.up KZ.out
      obtain ⟨g, rfl, hc⟩ := HRZ.first
      have d0 : w6.cell? ⟨g, 0, none⟩ = some (.int .i64 (m : Int)) := hc 0 (by simp)
      have d1 : w6.cell? ⟨g, 1, none⟩ = some (.int .i64 ((p * m : Nat) : Int)) := hc 1 (by simp)
      have hpm : IntKind.i64.wrap ((p : Int) * (m : Int)) = ((p * m : Nat) : Int) := by rw [← Int.natCast_mul, IntKind.wrap_i64]; omega
      have KW0 : Hid (Kept w w6) := HK.out.then (HW.out.then (HKW.out.then KZ.out))
      clear hc HRZ kw
      go_wp2_with fail
      go_ret
      exact ⟨rfl, KW0.out⟩
end Go.Proofs.Ytnfkjmafhaecgaa
