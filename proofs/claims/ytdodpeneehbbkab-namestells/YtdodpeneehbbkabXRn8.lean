/- Rn8 -/
import Derived.Test.YtdodpeneehbbkabXRr8
import Derived.Test.YtdodpeneehbbkabXRl8
import Derived.Test.YtdodpeneehbbkabXNj

namespace Go.Proofs.Ytdodpeneehbbkab
open Go.RowKit
attribute [local go_sem] run_store_complex
theorem isIn_true {d : List Dc} {k n : Nat} {x : ByteArray} (h : n < d.length) (hn : n < k) (hx : d[n].name = x) : Nf.isIn (d.take k) x = true := by
  unfold Nf.isIn
  rw [List.any_eq_true]
  refine ⟨d[n], ?_, by simpa using hx⟩
  rw [List.mem_take_iff_getElem]
  exact ⟨n, by omega, rfl⟩
theorem isIn_false {d : List Dc} {k : Nat} {x : ByteArray} (h : ∀ m, m < k → ∀ h2 : m < d.length, d[m].name ≠ x) : Nf.isIn (d.take k) x = false := by
  unfold Nf.isIn
  rw [List.any_eq_false]
  intro y hy
  obtain ⟨m, hm, rfl⟩ := List.mem_take_iff_getElem.1 hy
  have := h m (by omega) (by omega)
  simpa using this
theorem wrong_at (d : List Dc) (l : List St) (k : Nat) (h : k < l.length) : Nf.wrong d (l.drop k) = if Nf.right d l[k] = true then Nf.wrong d (l.drop (k + 1)) else some l[k] := by
  rw [List.drop_eq_getElem_cons h]
  unfold Nf.wrong
  rw [List.find?_cons]
  cases Nf.right d l[k] <;> rfl
set_option maxRecDepth 100000 in
set_option maxHeartbeats 2000000 in
theorem rnames8_any (d : List Dc) (t : List (List St)) (w : World) (dv tv : Value) (hd : DsIn w 0 w.heap.size d dv) (ht : TsIn w 0 w.heap.size t tv) (hn : (flatTs t).length ≤ 1073741824) (hs : ∀ s ∈ flatTs t, s.e.size ≤ 1073741823) :
    Calls Try.prog 16 #[.agg #[dv, tv]] w fun e w' => e = .returned (Nf.told (Nf.check d t)) ∧ Kept w w' := by
  have HA : Hid (DsIn w 0 w.heap.size d dv) := hd
  obtain ⟨a1, q1, rfl, hl1, hl2, hl3⟩ := hd.open
  obtain ⟨a2, q2, rfl, hm1, hm2, hm3⟩ := ht.open
  have LS : Hid (∀ W, Kept w W → Calls Try.prog 28 #[.agg #[.slice a1 d.length q1, .slice a2 t.length q2]] W fun r w' => ∃ v', r = .returned v' ∧ StsIn w' 0 w'.heap.size (flatTs t) v' ∧ Kept W w') := fun W hW => rlist_any d t W _ _ (hd.up (Nat.le_refl _) hW) (ht.up (Nat.le_refl _) hW) hn
  have HS : Hid (∀ s ∈ flatTs t, s.e.size ≤ 1073741823) := hs
  have FD : Hid (∀ (x : ByteArray) (W : World), Kept w W → Calls Try.prog 18 #[.agg #[.slice a1 d.length q1, .slice a2 t.length q2], .string x] W fun e w' => e = .returned (.int .i64 (Nf.find d 0 x)) ∧ Kept W w') := fun x W hW => rfind_any d x W _ a2 t.length q2 (HA.out.up (Nat.le_refl _) hW)
  have RR : Hid (∀ (s : St) (ev bv lv : Value) (W : World), Kept w W → ExsIn W 0 W.heap.size s.e.of ev → StsIn W 0 W.heap.size s.body bv → StsIn W 0 W.heap.size s.els lv → s.e.size ≤ 1073741823 → Calls Try.prog 29 #[.agg #[.slice a1 d.length q1, .slice a2 t.length q2], s.val ev bv lv] W fun e w' => e = .returned (.bool (Nf.right d s)) ∧ Kept W w') := fun s ev bv lv W hW h1 h2 h3 h4 => rright_any d s W _ a2 t.length q2 ev bv lv (HA.out.up (Nat.le_refl _) hW) h1 h2 h3 h4
  have hdl : (d.length : Int) ≤ 9223372036854775807 := by omega
  clear hd ht hs hn hl2 hl3 hm2 hm3
  go_enter Try.func16, Try.ntmps16
  go_wp2_with fail
  obtain ⟨W0, hW0⟩ : ∃ W, w.alloc (.cells #[.slice a1 d.length q1, .slice a2 t.length q2] 31) = W := ⟨_, rfl⟩
  obtain ⟨P, hP⟩ : ∃ P, w.heap.size = P := ⟨_, rfl⟩
  have KW : Hid (Kept w W0) := by rw [← hW0]; exact (Kept.refl _).al _
  have BP : Hid (BoxS W0 P [.slice a1 d.length q1, .slice a2 t.length q2]) := by rw [← hW0, ← hP]; exact box_newQ _ _ _
  rw [hW0, hP]
  clear hW0 hP
  go_loopw [4] (fun i wr => ∃ k : Nat, i = .int .i64 (k : Int) ∧ k ≤ d.length ∧ Hid (Kept W0 wr) ∧ Hid (Nf.dup [] d = Nf.dup (d.take k) (d.drop k))) (fun i _ => d.length - (intOf i).toNat)
  case atStart => exact ⟨0, rfl, Nat.zero_le _, Kept.refl _, rfl⟩
  case round =>
    obtain ⟨k, rfl, hk, HB, HU⟩ := hrel
    have bx := BP.out.kept HB.out
    have p0 := bx.cell 0 rfl
    have p1 := bx.cell 1 rfl
    have pl := bx.lt
    clear bx
    by_cases hlt : k < d.length
    · have hki : (k : Int) < (d.length : Int) := by omega
      obtain ⟨b, o, rfl, hb, _, c0, c1, c2, c3⟩ := (HA.out.up (Nat.le_refl _) (KW.out.then HB.out)).itemD k hlt
      have hbl := hb.2
      have hst := HU.out.trans (dup_step d k hlt)
      obtain ⟨n, hn, hfn, hname, hbef⟩ : ∃ n, ∃ h : n < d.length, Nf.find d 0 d[k].name = (n : Int) ∧ d[n].name = d[k].name ∧ ∀ m, ∀ h' : m < n, (d[m]'(Nat.lt_trans h' h)).name ≠ d[k].name := by
        rcases Nf.find_cases d[k].name d 0 with ⟨_, h⟩ | ⟨n, hn, h1, h2, h3⟩
        · exact absurd rfl (h _ (List.getElem_mem hlt))
        · exact ⟨n, hn, by rw [h1, Nat.zero_add], h2, h3⟩
      have hnk : n ≤ k := Nat.le_of_not_lt fun h => hbef k h rfl
      have FK : Hid (∀ W, Kept w W → Calls Try.prog 18 #[.agg #[.slice (some ⟨b, o, none⟩) d.length q1, .slice a2 t.length q2], .string d[k].name] W fun e w' => e = .returned (.int .i64 (n : Int)) ∧ Kept W w') := fun W hW => by rw [← hfn]; exact FD.out _ W hW
      by_cases hlt2 : n < k
      · have HE : Hid (Nf.check d t = some (d[k].re, d[k].im)) := by
          show _ = _
          rw [if_pos (isIn_true hn hlt2 hname)] at hst
          unfold Nf.check
          rw [hst]
        have hni : (n : Int) < (k : Int) := by omega
        have hK : Hid (Kept w wr) := KW.out.then HB.out
        clear hst hfn hname hbef hb hn HU LS FD RR HS hnk
        go_wp2_with fail
        go_region_with (first
          | (go_at_call 18; refine (FK.out _ (KW.out.then HB.out.dr)).mono ?_; rintro e w2 ⟨rfl, k2⟩; have HB2 : Hid (Kept W0 w2) := HB.out.dr.then k2; clear k2)
          | fail)
        all_goals
          clear p0 p1 pl c0 c1 c2 c3 hbl
          have bx := BP.out.kept HB2.out
          have p0 := bx.cell 0 rfl
          have pl := bx.lt
          obtain ⟨b', o', eb, hb, _, _, _, _, c3⟩ := (HA.out.up (Nat.le_refl _) (KW.out.then HB2.out)).itemD k hlt
          injection eb with eb
          injection eb with eb1 eb2
          subst eb1
          subst eb2
          have hbl := hb.2
          clear bx hb
          go_wp2_with fail
          go_ret2
          exact ⟨by rw [HE.out]; rfl, KW.out.then HB2.out⟩
      · have HE : Hid (Nf.dup [] d = Nf.dup (d.take (k + 1)) (d.drop (k + 1))) := by
          obtain rfl : n = k := by omega
          rw [if_neg (by rw [isIn_false fun m h' _ => hbef m h']; decide)] at hst
          exact hst
        have hni : ¬ (n : Int) < (k : Int) := by omega
        clear hst hfn hname hbef hb hn HU hnk
        go_wp2_with fail
        go_region_with (first
          | (go_at_call 18; refine (FK.out _ (KW.out.then HB.out.dr)).mono ?_; rintro e w2 ⟨rfl, k2⟩; have HB2 : Hid (Kept W0 w2) := HB.out.dr.then k2; clear k2)
          | fail)
        all_goals
          clear p0 p1 pl c0 c1 c2 c3 hbl
          go_wp2_with fail
          go_roundw
          case rel => exact ⟨k + 1, by go_num, by omega, HB2, HE⟩
          case measure => simp [intOf]; omega
    · have hki : ¬ (k : Int) < (d.length : Int) := by omega
      obtain rfl : k = d.length := by omega
      have HN : Hid (Nf.dup [] d = none) := HU.out.trans (dup_end d d.length (Nat.le_refl _) _)
      have HK : Hid (Kept w wr) := KW.out.then HB.out
      have HKR0 : Hid (Kept W0 wr) := HB.out
      clear hki hk HU HB
      go_wp2_with fail
      refine Calls.mono (LS.out _ HK.out) ?_
      rintro e w1 ⟨v1, rfl, hv1, hk1⟩
      obtain ⟨a9, c9, rfl, hl1', hl2', hl3'⟩ := hv1.open
      have HV : Hid (StsIn w1 0 w1.heap.size (flatTs t) (.slice a9 (flatTs t).length c9)) := hv1
      have K1 : Hid (Kept wr w1) := hk1
      have HSS : Hid (∀ s ∈ flatTs t, s.e.size ≤ 1073741823) := HS.out
      clear hv1 hk1 LS FD HS p0 p1 pl
      obtain ⟨L, hL⟩ : ∃ L, flatTs t = L := ⟨_, rfl⟩
      rw [hL] at HV HSS hl1' hl2' ⊢
      have HLL : Hid (flatTs t = L) := hL
      clear hL
      go_wp2_with fail
      go_loopw [6] (fun i wr' => ∃ k : Nat, i = .int .i64 (k : Int) ∧ k ≤ L.length ∧ Hid (Kept w1 wr') ∧ Hid (Nf.wrong d L = Nf.wrong d (L.drop k))) (fun i _ => L.length - (intOf i).toNat)
      case atStart => exact ⟨0, rfl, Nat.zero_le _, Kept.refl _, rfl⟩
      case round =>
        obtain ⟨k, rfl, hk, HB2, HU⟩ := hrel
        by_cases hlt : k < L.length
        · have hki : (k : Int) < (L.length : Int) := by omega
          have hKr := HK.out.then (K1.out.then HB2.out)
          have HKr : Hid (Kept w _) := hKr
          obtain ⟨b, o, b1, m1, r1, b2, m2, r2, b3, m3, r3, rfl, hb, _, s0, s1, s2, s3, s4, s5, s6, s7, s8, s9, s10, he, hbd, hels⟩ := (HV.out.up (Nat.le_refl _) HB2.out).itemD k hlt
          have hbl := hb.2
          have bx := BP.out.kept (HKR0.out.then (K1.out.then HB2.out))
          have p0 := bx.cell 0 rfl
          have p1 := bx.cell 1 rfl
          have pl := bx.lt
          have hst := HU.out.trans (wrong_at d L k hlt)
          have RT : Hid (∀ W, Kept wr W → Calls Try.prog 29 #[.agg #[.slice a1 d.length q1, .slice a2 t.length q2], .agg #[.int .i64 L[k].kind, .string L[k].name, .string L[k].other, .int .i64 L[k].n, .int .i64 L[k].e.kind, .int .i64 L[k].e.n, .string L[k].e.name, .slice b1 m1 r1, .slice b2 m2 r2, .slice b3 m3 r3, .complex .f64 L[k].re L[k].im]] W fun e w' => e = .returned (.bool (Nf.right d L[k])) ∧ Kept W w') := fun W hW =>
            RR.out L[k] _ _ _ W (hKr.then hW) (he.up (Nat.le_refl _) hW) (hbd.up (Nat.le_refl _) hW) (hels.up (Nat.le_refl _) hW) (HSS.out _ (List.getElem_mem hlt))
          have HX : Hid (∀ W, Kept wr W → b < W.heap.size ∧ W.cell? ⟨b, o + k * 11 + 10, none⟩ = some (.complex .f64 L[k].re L[k].im)) := fun W hW => ⟨Nat.lt_of_lt_of_le hbl hW.size, hW.cellS s10⟩
          clear he hbd hels hb bx hKr
          cases hr : Nf.right d L[k] with
          | true =>
            rw [hr] at hst RT
            have HE : Hid (Nf.wrong d L = Nf.wrong d (L.drop (k + 1))) := by rw [if_pos rfl] at hst; exact hst
            clear hst hr HX
            go_wp2_with fail
            go_region_with (first
              | (go_at_call 29; refine (RT.out _ (Kept.refl _).dr).mono ?_; rintro e w3 ⟨rfl, k3⟩; have HB3 : Hid (Kept w1 w3) := HB2.out.dr.then k3; clear k3)
              | fail)
            all_goals
              clear p0 p1 pl s0 s1 s2 s3 s4 s5 s6 s7 s8 s9 s10 hbl
              go_wp2_with fail
              go_roundw
              case rel => exact ⟨k + 1, by go_num, by omega, HB3, HE⟩
              case measure => simp [intOf]; omega
          | false =>
            rw [hr] at hst RT
            have HE : Hid (Nf.check d t = some (L[k].re, L[k].im)) := by
              show _ = _
              rw [if_neg (by decide)] at hst
              unfold Nf.check
              rw [HN.out, HLL.out, hst]; rfl
            clear hst hr
            go_wp2_with fail
            go_region_with (first
              | (go_at_call 29; refine (RT.out _ (Kept.refl _).dr).mono ?_; rintro e w3 ⟨rfl, k3⟩; have HK3 : Hid (Kept wr w3) := (Kept.refl _).dr.then k3; clear k3)
              | fail)
            all_goals
              clear p0 p1 pl s0 s1 s2 s3 s4 s5 s6 s7 s8 s9 s10 hbl
              obtain ⟨hbl, s10⟩ := HX.out _ HK3.out
              go_wp2_with fail
              go_ret2
              exact ⟨by rw [HE.out]; rfl, HKr.out.then HK3.out⟩
        · have hki : ¬ (k : Int) < (L.length : Int) := by omega
          have HE : Hid (Nf.check d t = none) := by
            show _ = _
            have := HU.out
            rw [List.drop_eq_nil_of_le (by omega)] at this
            unfold Nf.check
            rw [HN.out, HLL.out, this]; rfl
          have HK2 : Hid (Kept w _) := HK.out.then (K1.out.then HB2.out)
          go_wp2_with fail
          go_ret2
          exact ⟨by rw [HE.out]; rfl, HK2.out⟩
end Go.Proofs.Ytdodpeneehbbkab
