/- Ni -/
import Derived.Test.YtbfikeegacapjaaWNh
import Derived.Deep.LoopGhost

namespace Go.Proofs.Ytbfikeegacapjaa
open Go.RowKit
attribute [local go_sem] run_store_complex
set_option maxRecDepth 100000 in
set_option maxHeartbeats 2000000 in
theorem firstWrong_any (d : List Dc) (ss : List St) (w : World) (B : Nat) (v : Value) (hs : StsIn w 0 w.heap.size ss v) (hm : KM w B d) (hf : ∀ s ∈ St.flats ss, Fit s) (hn : St.sizes ss ≤ 300000000) :
    Calls Try.prog 32 #[v, .map (some B)] w fun e w' => e = .returned (toldW (Nf.wrong d (St.flats ss))) ∧ Kept w w' := by
  have HM : Hid (KM w B d) := hm
  have H0 : Hid (FW d ss w (w.alloc (.cells #[v] 47)) B [(ss, v)] (.slice (some ⟨w.heap.size, 0, none⟩) 1 1)) := by
    refine ⟨own_lit w.heap.size 47 1 #[v] rfl (Nat.le_refl _), fun p hp => ?_, (Kept.refl _).al _, by simp [remOf], by simpa [remOf] using hf, by simp [workOf]; omega⟩
    obtain rfl : p = (ss, v) := by simpa using hp
    exact hs.stays (((Kept.refl w).al _).stays (Nat.le_refl _))
  obtain ⟨a0, n0, q0, rfl⟩ := hs.form
  clear hs hm hf hn
  go_enter Try.func32, Try.ntmps32
  go_wp2_with fail
  go_loopg [6] (workOf [(ss, Value.slice a0 n0 q0)]) (fun gk v wr => ∃ ps a cap, v = .slice a ps.length cap ∧ Hid (FW d ss w wr B ps v) ∧ Hid (workOf ps ≤ gk))
  case atStart => exact ⟨[(ss, .slice a0 n0 q0)], _, _, rfl, H0, Nat.le_refl _⟩
  case round =>
    obtain ⟨ps, a, cap, rfl, HF, HW⟩ := hrel
    rcases List.eq_nil_or_concat ps with hps | ⟨qs, p, hps⟩
    · subst hps
      have HE : Hid (Nf.wrong d (St.flats ss) = none) := HF.out.wrong
      have hk := HF.out.kept
      have HK : Hid (Kept w wr) := hk
      clear hk
      go_wp2_with fail
      go_ret2
      exact ⟨by rw [HE.out]; rfl, HK.out⟩
    · obtain rfl : ps = qs ++ [p] := by rw [hps]; exact List.concat_eq_append
      obtain ⟨l, x⟩ := p
      have hsx : StsIn wr 0 w.heap.size l x := HF.out.kids (l, x) (by simp)
      obtain ⟨xa, xc, rfl, hl1, hl2, hl3⟩ := hsx.open
      have hlen : (qs ++ [(l, Value.slice xa l.length xc)]).length = qs.length + 1 := by simp
      have HL : Hid _ := hlen
      obtain ⟨N, hN⟩ : ∃ N, qs.length = N := ⟨_, rfl⟩
      rw [hlen] at HF ⊢
      have hrow := HF.out.row
      rw [hlen] at hrow
      obtain ⟨a1, c1, e1, hslc⟩ := own_slice hrow
      injection e1 with e0 _ e3
      subst e0 e3
      have hcap := hslc.le
      have hbig := hslc.big
      obtain ⟨g, rfl⟩ : ∃ g, a = some ⟨g, 0, none⟩ := by
        rcases hrow.2 with ⟨h0, h1⟩ | ⟨g, cap', cur, h0, -⟩
        · omega
        · injection h0 with h0; exact ⟨g, h0⟩
      have cg := hrow.cellAt qs.length (by omega)
      rw [List.map_append, List.getElem?_append_right (by simp)] at cg
      simp only [List.length_map, Nat.sub_self, List.map_cons, List.map_nil, List.getElem?_cons_zero] at cg
      have hgl := (hrow.lt g rfl).2
      have HFN : Hid (qs.length = N) := hN
      rw [hN] at cg HF hcap hrow hslc
      rw [hN]
      clear hlen hps hrow hslc hN
      have hbig' : cap ≤ 9223372036854775807 := by unfold maxLen at hbig; omega
      have hNN : (N : Int) < (N : Int) + 1 := by omega
      have HSX : Hid (StsIn wr 0 w.heap.size l (.slice xa l.length xc)) := hsx
      clear hsx
      cases l with
      | nil =>
        have hcut : ∀ W, (Instr.sliceAt 25 (.slice (some ⟨g, 0, none⟩) (N + 1) cap) none (some (.int .i64 (N : Int))) none).run Try.prog W = .ok (.slice (cutAt (some ⟨g, 0, none⟩) 0 cap 1) N cap) W := fun W => run_cut_h Try.underlying25 rfl Try.sizeOf47 (some ⟨g, 0, none⟩) (N + 1) cap N (by omega) W
        have HP : Hid (FW d ss w wr B qs (.slice (cutAt (some ⟨g, 0, none⟩) 0 cap 1) N cap)) := by
          have h1 := HF.out
          rw [← HFN.out] at h1 ⊢
          obtain ⟨g', e1, h2⟩ := h1.pop
          injection e1 with e1
          injection e1 with e1
          subst e1
          exact h2
        go_wp2_with fail
        go_roundg (workOf qs)
        case measure =>
          have h1 := HW.out
          rw [work_snoc] at h1
          omega
        case rel => exact ⟨qs, _, cap, by rw [HFN.out], HP, Nat.le_refl _⟩
      | cons s l =>
        obtain ⟨b, o, ea, en, eq, ba, bn, bq, la, ln, lq, rfl, _, hb, _, c0, c1, c2, c3, c4, c5, c6, c7, c8, c9, c10, he, hbd, hel⟩ := HSX.out.item (StaysD.refl _ _) 0 (by simp)
        simp only [Nat.zero_mul, Nat.add_zero, List.getElem_cons_zero] at c0 c1 c2 c3 c4 c5 c6 c7 c8 c9 c10 he hbd hel
        have hk := HF.out.kept
        have HKP : Hid (Kept w wr) := hk
        have hz := hk.size
        have hbl : b < wr.heap.size := by omega
        have HFIT : Hid (Fit s) := HF.out.fit s (by rw [rem_snoc, flats_cons]; simp)
        obtain ⟨hn, hcx, htl⟩ := sts_tail HSX.out
        have HTL : Hid (StsIn wr 0 w.heap.size l (.slice (cutAt (some ⟨b, o, none⟩) 1 xc 11) l.length (xc - 1))) := htl
        have HEL : Hid (StsIn wr 0 w.heap.size s.els (.slice la ln lq)) := hel
        have HBD : Hid (StsIn wr 0 w.heap.size s.body (.slice ba bn bq)) := hbd
        have hcut : ∀ W, (Instr.sliceAt 47 (.slice (some ⟨b, o, none⟩) (l.length + 1) xc) (some (.int .i64 1)) none none).run Try.prog W = .ok (.slice (cutAt (some ⟨b, o, none⟩) 1 xc 11) l.length (xc - 1)) W := fun W => run_cut_l Try.underlying47 rfl Try.sizeOf55 (some ⟨b, o, none⟩) (l.length + 1) xc 1 (by omega) W
        have RC : Hid (∀ W, Kept wr W → Calls Try.prog 52 #[.agg #[.int .i64 s.kind, .string s.name, .string s.other, .int .i64 s.n, .int .i64 s.e.kind, .int .i64 s.e.n, .string s.e.name, .slice ea en eq, .slice ba bn bq, .slice la ln lq, .complex .f64 s.re s.im], .map (some B)] W fun e w' => e = .returned (.bool (Nf.right d s)) ∧ Kept W w') := by
          intro W hW
          have := right_any d s W B (.slice ea en eq) (.slice ba bn bq) (.slice la ln lq) (he.up hz hW) (hbd.up hz hW) (hel.up hz hW) HFIT.out.e ((HM.out.kept HKP.out).kept hW) HFIT.out.nm HFIT.out.to
          exact this
        have hl0 : (0 : Int) < (l.length : Int) + 1 := by omega
        clear he hbd hel hk hn htl
        generalize cutAt (some ⟨b, o, none⟩) 1 xc 11 = xa' at *
        cases hr : Nf.right d s with
        | false =>
          rw [hr] at RC
          have HE : Hid (Nf.wrong d (St.flats ss) = some s) := by
            have := HF.out.wrong
            rw [rem_snoc, flats_cons] at this
            show _ = _
            rw [this, List.cons_append, wrong_cons_no hr]
          clear hr
          go_wp2_with fail
          refine (RC.out _ ((Kept.refl _).al _)).mono ?_
          rintro e w2 ⟨rfl, k2⟩
          have K2 : Hid (Kept wr w2) := ((Kept.refl wr).al _).then k2
          have y10 : w2.cell? ⟨wr.heap.size, 10, none⟩ = some (.complex .f64 s.re s.im) := k2.cellS (by simp)
          clear k2
          go_wp2_with fail
          go_ret2
          exact ⟨by rw [HE.out]; rfl, HKP.out.then K2.out⟩
        | true =>
          rw [hr] at RC
          have HR : Hid (Nf.right d s = true) := hr
          clear hr
          go_wp2_with fail
          refine (RC.out _ ((Kept.refl _).al _)).mono ?_
          rintro e w2 ⟨rfl, k2⟩
          have K2 : Hid (Kept wr w2) := ((Kept.refl wr).al _).then k2
          have y9 : w2.cell? ⟨wr.heap.size, 9, none⟩ = some (.slice la ln lq) := k2.cellS (by simp)
          have y8 : w2.cell? ⟨wr.heap.size, 8, none⟩ = some (.slice ba bn bq) := k2.cellS (by simp)
          have cg2 : w2.cell? ⟨g, N, none⟩ = some (.slice (some ⟨b, o, none⟩) (l.length + 1) xc) := K2.out.cellS cg
          have HR2 : Hid (w2.ownsRow w.heap.size 47 1 (.slice (some ⟨g, 0, none⟩) (N + 1) cap) (N + 1) (qs.map (·.2) ++ [.slice (some ⟨b, o, none⟩) (l.length + 1) xc])) := by
            have h1 := HF.out.row
            rw [List.map_append, List.length_append, List.length_singleton, HFN.out] at h1
            exact h1.kept (Grow.kept (.slice none 0 0) K2.out).grown (by simp [Value.ownBlock])
          have fg2 : w2.frozen? ⟨g, N, none⟩ = false := own_fz HR2.out N
          have hg2 : g < w2.heap.size := by have := K2.out.size; omega
          have hw2 : wr.heap.size < w2.heap.size := block_lt_of_cell y9
          obtain ⟨w3, hw3⟩ : ∃ w3, w2.setCell ⟨g, N, none⟩ (.slice xa' l.length (xc - 1)) = w3 := ⟨_, rfl⟩
          have HW3 : Hid (w2.setCell ⟨g, N, none⟩ (.slice xa' l.length (xc - 1)) = w3) := hw3
          clear k2 c0 c1 c2 c3 c4 c5 c6 c7 c8 c9 c10 cg
          have z9 : w3.cell? ⟨wr.heap.size, 9, none⟩ = some (.slice la ln lq) := by rw [← hw3]; exact (World.cell?_of_block (w := w2) (a := ⟨wr.heap.size, 9, none⟩) (heap_setCells g [_] N w2 wr.heap.size (by omega))).trans y9
          have z8 : w3.cell? ⟨wr.heap.size, 8, none⟩ = some (.slice ba bn bq) := by rw [← hw3]; exact (World.cell?_of_block (w := w2) (a := ⟨wr.heap.size, 8, none⟩) (heap_setCells g [_] N w2 wr.heap.size (by omega))).trans y8
          have hz3 : wr.heap.size < w3.heap.size := by rw [← hw3, setCell_size]; exact hw2
          have HROW : Hid (w3.ownsRow w.heap.size 47 1 (.slice (some ⟨g, 0, none⟩) (N + 1) cap) (N + 1) (qs.map (·.2) ++ [.slice xa' l.length (xc - 1)]) ∧ w.heap.size ≤ w3.heap.size) := by
            have h1 := own_top (y := .slice xa' l.length (xc - 1)) HR2.out
            rw [hw3] at h1
            exact ⟨h1, by omega⟩
          have HBG : Hid (N + 1 + 2 ≤ 1000000010) := by
            have h1 := HF.out.few
            rw [work_snoc] at h1
            have h2 : qs.length ≤ workOf qs := by unfold workOf; omega
            have h3 := HFN.out
            show _ ≤ _
            omega
          go_wp2_with (at_builtin; refine wpList_append_rows (base := w.heap.size) (n := N + 1) (xs := qs.map (·.2) ++ [.slice xa' l.length (xc - 1)]) (by rfl) _ _ _ (by rfl) elemTs (by rfl) (HROW.out.1.kept (Grow.kept (.slice none 0 0) ((Kept.refl w3).al _)).grown (by simp [Value.ownBlock])) (by rfl) (own_lit2 w.heap.size 47 _ _ HROW.out.2) ?one ?byt ?len ?base ?_)
          case one => exact fun u hu => by simp at hu; rcases hu with rfl | rfl <;> rfl
          case byt => have := HBG.out; omega
          case len => have := HBG.out; unfold maxLen; omega
          case base => have := HROW.out.2; simp; omega
          intro ad cp wa HG
          have HE : Hid (FW d ss w wa B (qs ++ [(l, .slice xa' l.length (xc - 1)), (s.els, .slice la ln lq), (s.body, .slice ba bn bq)]) (.slice ad (N + 1 + 2) cp)) := by
            have h1 := HF.out
            rw [← HFN.out] at h1
            have h3 := HW3.out
            have hG := HG.out
            rw [← HFN.out] at h3 hG
            have := h1.step (y := .slice la ln lq) (z := .slice ba bn bq) (x' := .slice xa' l.length (xc - 1)) HR.out K2.out (HTL.out.stays (K2.out.stays hz)) (HEL.out.stays (K2.out.stays hz)) (HBD.out.stays (K2.out.stays hz)) h3 hG
            rw [HFN.out] at this
            exact this
          clear HG HROW z9 z8 hz3
          go_wp2_with fail
          go_roundg (workOf (qs ++ [(l, .slice xa' l.length (xc - 1)), (s.els, .slice la ln lq), (s.body, .slice ba bn bq)]))
          case measure =>
            have h1 := HW.out
            rw [work_snoc, St.sizes] at h1
            have hss := St.size_eq s
            have : workOf (qs ++ [(l, Value.slice xa' l.length (xc - 1)), (s.els, .slice la ln lq), (s.body, .slice ba bn bq)]) = workOf qs + 3 * (St.sizes l + St.sizes s.els + St.sizes s.body) + 3 := by simp [workOf]; omega
            omega
          case rel => exact ⟨_, ad, cp, by simp [HFN.out], HE, Nat.le_refl _⟩
end Go.Proofs.Ytbfikeegacapjaa
