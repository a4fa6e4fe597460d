/- Nv Rk8 Rr8 -/
import Derived.Test.YtdodpeneehbbkabXNu
import Derived.Test.YtdodpeneehbbkabXSmA
import Derived.Test.YtdodpeneehbbkabXSh
import Derived.Test.YtdodpeneehbbkabXNk
import Derived.Test.YtdodpeneehbbkabXNf
import Derived.Deep.RegionHeld3
import Derived.Deep.RegionWith
import Derived.Test.YtdodpeneehbbkabXTq
import Derived.Test.YtdodpeneehbbkabXNg
import Derived.Test.YtdodpeneehbbkabXQa

namespace Go.Proofs.Ytdodpeneehbbkab
open Go.RowKit
attribute [local go_sem] run_store_complex
theorem made_read {d0 : List Dc} {t0 : List (List St)} {most : Int} {nc : Nat} (hg : GoodP d0 t0 most nc) {w1 : World} {lo1 lo2 : Nat} {v1 v2 : Value} (h1 : DsIn w1 lo1 w1.heap.size d0 v1) (h2 : TsIn w1 lo2 w1.heap.size t0 v2) :
    ∃ s : ByteArray, Calls Try.prog 14 #[.agg #[v1, v2]] w1 (fun r w' => r = .returned (.string s) ∧ Kept w1 w') ∧ ∃ (d : List Dc) (t : List (List St)), MadeR d t ∧ t.length = t0.length ∧
      ∀ W, Calls Try.prog 8 #[.string s] W fun e w' => ∃ (a1 : Option Addr) (q1 : Nat) (a2 : Option Addr) (q2 : Nat), e = .returned (.agg #[.slice a1 d.length q1, .slice a2 t.length q2]) ∧ Hid (Kept W w' ∧ OwnD w' 0 d (.slice a1 d.length q1) ∧ TsIn w' 0 w'.heap.size t (.slice a2 t.length q2)) := by
  have h3 := hg.three
  have h4 := hg.two
  have hl := hg.dl.1
  have hlen := Ps.shown_len (e := 2) (by decide) d0 t0 hg.dl.2 fun b hb => hg.ok b hb
  obtain ⟨d, t, q, ho, hm, hs⟩ := mader hl hg.dl.2 (by rintro rfl; simp at h4) (by omega) fun b hb => hg.ok b hb
  have htl : t.length = t0.length := by
    obtain ⟨d', t', q', ho', s1, s2⟩ := Ps.out_shown (e := 2) (by decide) d0 t0 (by omega) hg.dl.2 (fun b hb => (hg.ok b hb).1) (by omega) (by rintro rfl; simp at h4) (by omega)
    rw [ho] at ho'
    injection ho' with e1 e2
    injection e1 with e1
    injection e1 with e1 e3
    rw [e3]; exact Ps.len_of_map s2
  refine ⟨_, showp_any 2 (by decide) d0 t0 hg.dl.2 (fun b hb => (hg.ok b hb).1) (by omega) w1 _ _ (h1.up (Nat.le_refl _) (Kept.refl _)) (h2.up (Nat.le_refl _) (Kept.refl _)), d, t, hm, htl, fun W => ?_⟩
  refine (read_any _ (by simp [Px.ba, ByteArray.size]; omega) W d t q ho).mono ?_
  rintro e w' ⟨a1, n1, q1, a2, n2, q2, rfl, H⟩
  obtain ⟨k, hd, ht, ho⟩ := H.out
  obtain ⟨_, _, e1, -⟩ := hd.open
  obtain ⟨_, _, e2, -⟩ := ht.open
  injection e1 with _ e1 _
  injection e2 with _ e2 _
  subst e1
  subst e2
  exact ⟨a1, q1, a2, q2, rfl, k, ho.lower (Nat.zero_le _), ht.mono fun j hj => ⟨Nat.zero_le _, hj.2⟩⟩
end Go.Proofs.Ytdodpeneehbbkab

namespace Go.Proofs.Ytdodpeneehbbkab
open Go.RowKit
attribute [local go_sem] run_store_complex
set_option maxRecDepth 100000 in
set_option maxHeartbeats 1000000 in
theorem rkind_any (d : List Dc) (x : ByteArray) (w : World) (v : Value) (a2 : Option Addr) (n2 q2 : Nat) (hd : DsIn w 0 w.heap.size d v) :
    Calls Try.prog 46 #[.agg #[v, .slice a2 n2 q2], .string x] w fun e w' => e = .returned (.int .i64 (Nf.kind d x)) ∧ Kept w w' := by
  have HA : Hid _ := hd
  obtain ⟨a, cap, rfl, hl, hl2, hcap⟩ := hd.open
  clear hd
  have HK : Hid _ := Nf.kind_find d x 0
  rcases Nf.find_cases x d 0 with ⟨hf, -⟩ | ⟨n, hn, hf, hnm, -⟩
  · have FD : Hid (∀ W, Kept w W → Calls Try.prog 18 #[.agg #[.slice a d.length cap, .slice a2 n2 q2], .string x] W fun e w' => e = .returned (.int .i64 (-1)) ∧ Kept W w') := fun W hW => by
      have := rfind_any d x W _ a2 n2 q2 (HA.out.up (Nat.le_refl _) hW); rwa [hf] at this
    have he : Nf.kind d x = 0 := by have := HK.out; rw [hf] at this; simpa using this
    have HE : Hid (Nf.kind d x = 0) := he
    clear he
    clear hf HA HK
    go_enter Try.func46, Try.ntmps46
    go_wp2_with fail
    refine (FD.out _ ((Kept.refl _).al _)).mono ?_
    rintro e w1 ⟨rfl, k1⟩
    have HK1 : Hid (Kept w w1) := ((Kept.refl _).al _).then k1
    clear k1 FD
    go_wp2_with fail
    go_ret
    exact ⟨by rw [HE.out]; rfl, HK1.out⟩
  · have FD : Hid (∀ W, Kept w W → Calls Try.prog 18 #[.agg #[.slice a d.length cap, .slice a2 n2 q2], .string x] W fun e w' => e = .returned (.int .i64 (n : Int)) ∧ Kept W w') := fun W hW => by
      have := rfind_any d x W _ a2 n2 q2 (HA.out.up (Nat.le_refl _) hW); rwa [hf, Nat.zero_add] at this
    have he : Nf.kind d x = d[n].kind := by
      have := HK.out
      rw [hf, if_neg (by omega)] at this
      rw [this]
      have e : ((0 + n : Nat) : Int) - ((0 : Nat) : Int) = (n : Int) := by omega
      rw [e]
      simp [List.getD, hn]
    have HE : Hid (Nf.kind d x = d[n].kind) := he
    clear he
    have hni : (n : Int) < (d.length : Int) := by omega
    have hn0 : ¬ ((n : Int) < 0) := by omega
    have HN : Hid (n < d.length) := hn
    clear hf HK hnm
    go_enter Try.func46, Try.ntmps46
    go_wp2_with fail
    refine (FD.out _ ((Kept.refl _).al _)).mono ?_
    rintro e w1 ⟨rfl, k1⟩
    have HK1 : Hid (Kept w w1) := ((Kept.refl _).al _).then k1
    have p0 : w1.cell? ⟨w.heap.size, 0, none⟩ = some (.slice a d.length cap) := k1.cellS (by simp)
    have pl := block_lt_of_cell p0
    obtain ⟨b, o, rfl, hb, _, c0, c1, c2, c3⟩ := (HA.out.up (Nat.le_refl _) HK1.out).itemD n HN.out
    have hbl := hb.2
    clear k1 FD hb
    generalize d[n].kind = z at *
    clear hn
    clear c1 c2 c3
    go_wp2_with fail
    first
    | (go_region_held3 (fun w' => w'.cell? ⟨w.heap.size, 0, none⟩ = some (.slice (some ⟨b, o, none⟩) d.length cap) ∧ w'.cell? ⟨b, o + n * 4, none⟩ = some (.int .i64 z)) (go_keep) (fail)
       go_wp2_with fail
       go_ret
       exact ⟨by rw [HE.out]; rfl, HK1.out.dr⟩)
    | (go_ret
       exact ⟨by rw [HE.out]; rfl, HK1.out⟩)
end Go.Proofs.Ytdodpeneehbbkab

namespace Go.Proofs.Ytdodpeneehbbkab
open Go.RowKit
attribute [local go_sem] run_store_complex
set_option maxRecDepth 100000 in
set_option maxHeartbeats 1000000 in
theorem rright_any (d : List Dc) (s : St) (w : World) (v : Value) (a2 : Option Addr) (n2 q2 : Nat) (ev bv lv : Value) (hd : DsIn w 0 w.heap.size d v) (he : ExsIn w 0 w.heap.size s.e.of ev) (hb : StsIn w 0 w.heap.size s.body bv) (hl : StsIn w 0 w.heap.size s.els lv) (hn : s.e.size ≤ 1073741823) :
    Calls Try.prog 29 #[.agg #[v, .slice a2 n2 q2], s.val ev bv lv] w fun e w' => e = .returned (.bool (Nf.right d s)) ∧ Kept w w' := by
  have HA : Hid _ := hd
  have TC : Hid (∀ W, Kept w W → Calls Try.prog 44 #[s.val ev bv lv] W fun r w' => ∃ v', r = .returned v' ∧ ValsD w' (Rng W.heap.size w'.heap.size) (strs s.touches) v' ∧ Kept W w') := fun W hW =>
    rtouches_any s W ev bv lv (he.up (Nat.le_refl _) hW) (hb.up (Nat.le_refl _) hW) (hl.up (Nat.le_refl _) hW) hn
  obtain ⟨a, cap, rfl, hl1, hl2, hcap⟩ := hd.open
  have KD : Hid (∀ (x : ByteArray) (W : World), Kept w W → Calls Try.prog 46 #[.agg #[.slice a d.length cap, .slice a2 n2 q2], .string x] W fun e w' => e = .returned (.int .i64 (Nf.kind d x)) ∧ Kept W w') := fun x W hW => rkind_any d x W _ a2 n2 q2 (HA.out.up (Nat.le_refl _) hW)
  clear hd he hb hl hl1 hl2 hcap HA
  go_enter Try.func29, Try.ntmps29
  obtain ⟨W0, hW0⟩ : ∃ W, (w.alloc (.cells #[.slice a d.length cap, .slice a2 n2 q2] 31)).alloc (.cells #[.int .i64 s.kind, .string s.name, .string s.other, .int .i64 s.n, .int .i64 s.e.kind, .int .i64 s.e.n, .string s.e.name, ev, bv, lv, .complex .f64 s.re s.im] 73) = W := ⟨_, rfl⟩
  obtain ⟨P, hP⟩ : ∃ P, w.heap.size = P := ⟨_, rfl⟩
  have KW : Hid (Kept w W0) := by rw [← hW0]; exact ((Kept.refl _).al _).al _
  have BP : Hid (BoxS W0 P [.slice a d.length cap, .slice a2 n2 q2]) := by rw [← hW0, ← hP]; exact (box_newQ _ _ _).kept ((Kept.refl _).al _)
  have BS0 : Hid (BoxS W0 (P + 1) [.int .i64 s.kind, .string s.name, .string s.other, .int .i64 s.n, .int .i64 s.e.kind, .int .i64 s.e.n, .string s.e.name, ev, bv, lv, .complex .f64 s.re s.im]) := by
    have := box_newQ (w.alloc (.cells #[.slice a d.length cap, .slice a2 n2 q2] 31)) #[.int .i64 s.kind, .string s.name, .string s.other, .int .i64 s.n, .int .i64 s.e.kind, .int .i64 s.e.n, .string s.e.name, ev, bv, lv, .complex .f64 s.re s.im] 73
    rw [show (w.alloc (.cells #[.slice a d.length cap, .slice a2 n2 q2] 31)).heap.size = P + 1 by simp [hP], hW0] at this
    exact this
  have HW0 : Hid _ := hW0
  have HPP : Hid (w.heap.size = P) := hP
  clear hW0 hP
  go_wp2_with fail
  rw [show _ = W0 from HW0.out]
  refine Calls.mono (TC.out _ KW.out) ?_
  rintro e w1 ⟨v1, rfl, hv1, hk1⟩
  obtain ⟨a9, c9, rfl, hl1, hl2, hl3⟩ := hv1.open
  rw [strs_len] at *
  have HV : Hid (ValsD w1 (Rng _ _) (strs s.touches) (.slice a9 s.touches.length c9)) := hv1
  have K1 : Hid (Kept W0 w1) := hk1
  rw [HPP.out]
  clear hv1 hk1 HW0 HPP TC
  go_wp2_with fail
  go_loopw [6] (fun i wr => ∃ k : Nat, i = .int .i64 (k : Int) ∧ k ≤ s.touches.length ∧ Hid (Kept w1 wr) ∧ Hid (Nf.right d s = (Nf.own d s && (s.touches.drop k).all fun x => Nf.plain (Nf.kind d x)))) (fun i _ => s.touches.length - (intOf i).toNat)
  case atStart => exact ⟨0, rfl, Nat.zero_le _, Kept.refl _, rfl⟩
  case round =>
    obtain ⟨k, rfl, hk, HB, HS⟩ := hrel
    by_cases hlt : k < s.touches.length
    · have hki : (k : Int) < (s.touches.length : Int) := by omega
      obtain ⟨b, o, rfl, hb, c0⟩ := HV.out.itemD k (by rw [strs_len]; exact hlt)
      have e0 : (strs s.touches)[k]'(by rw [strs_len]; exact hlt) = .string s.touches[k] := by simp [strs]
      rw [e0] at c0
      have c0 := HB.out.cellS c0
      have hbl := block_lt_of_cell c0
      have bx := BP.out.kept (K1.out.then HB.out)
      have p0 := bx.cell 0 rfl
      have p1 := bx.cell 1 rfl
      have pl := bx.lt
      have hst := HS.out.trans (congrArg (Nf.own d s && ·) (all_step d s.touches k hlt))
      have KX : Hid (∀ W, Kept w W → Calls Try.prog 46 #[.agg #[.slice a d.length cap, .slice a2 n2 q2], .string s.touches[k]] W fun e w' => e = .returned (.int .i64 (Nf.kind d s.touches[k])) ∧ Kept W w') := KD.out _
      have PX : Hid (∀ W, Calls Try.prog 45 #[.int .i64 (Nf.kind d s.touches[k])] W fun e w' => e = .returned (.bool (Nf.plain (Nf.kind d s.touches[k]))) ∧ w' = W) := fun W => rplain_any _ W
      generalize Nf.kind d s.touches[k] = kd at *
      generalize s.touches[k] = tx at *
      clear e0 bx hb
      cases h1 : Nf.plain kd with
      | true =>
        rw [h1] at hst PX
        have HE : Hid (Nf.right d s = (Nf.own d s && (s.touches.drop (k + 1)).all fun x => Nf.plain (Nf.kind d x))) := by show _ = _; simpa using hst
        clear hst h1
        go_wp2_with fail
        go_region_with (first
          | (go_at_call 46; refine (KX.out _ (KW.out.then (K1.out.then HB.out.dr))).mono ?_; rintro e w2 ⟨rfl, k2⟩; have HB2 : Hid (Kept w1 w2) := HB.out.dr.then k2; clear k2)
          | (go_at_call 45; refine (PX.out _).mono ?_; rintro e w3 ⟨rfl, rfl⟩)
          | fail)
        all_goals
          clear p0 p1 pl c0 hbl
          go_wp2_with fail
          go_roundw
          case rel => exact ⟨k + 1, by go_num, by omega, HB2, HE⟩
          case measure => simp [intOf]; omega
      | false =>
        rw [h1] at hst PX
        have HE : Hid (Nf.right d s = false) := by show _ = _; simpa using hst
        clear hst h1
        go_wp2_with fail
        go_region_with (first
          | (go_at_call 46; refine (KX.out _ (KW.out.then (K1.out.then HB.out.dr))).mono ?_; rintro e w2 ⟨rfl, k2⟩; have HB2 : Hid (Kept w1 w2) := HB.out.dr.then k2; clear k2)
          | (go_at_call 45; refine (PX.out _).mono ?_; rintro e w3 ⟨rfl, rfl⟩)
          | fail)
        all_goals
          clear p0 p1 pl c0 hbl
          go_wp2_with fail
          go_ret
          exact ⟨by rw [HE.out]; rfl, KW.out.then (K1.out.then HB2.out)⟩
    · have hki : ¬ (k : Int) < (s.touches.length : Int) := by omega
      have HE : Hid (Nf.right d s = Nf.own d s) := by
        have := HS.out
        rw [List.drop_eq_nil_of_le (by omega)] at this
        show _ = _
        simpa using this
      have HKr : Hid (Kept w wr) := KW.out.then (K1.out.then HB.out)
      have bx := BP.out.kept (K1.out.then HB.out)
      have p0 := bx.cell 0 rfl
      have p1 := bx.cell 1 rfl
      have pl := bx.lt
      have bs := BS0.out.kept (K1.out.then HB.out)
      have s0 := bs.cell 0 rfl
      have s1 := bs.cell 1 rfl
      have sl := bs.lt
      have KX : Hid (∀ W, Kept w W → Calls Try.prog 46 #[.agg #[.slice a d.length cap, .slice a2 n2 q2], .string s.name] W fun e w' => e = .returned (.int .i64 (Nf.kind d s.name)) ∧ Kept W w') := KD.out _
      obtain ⟨sk, hsk⟩ : ∃ z, s.kind = z := ⟨_, rfl⟩
      rw [hsk] at s0
      clear bx bs HS KD BP BS0
      by_cases h2 : sk = 2 ∨ sk = 3
      · have HO : Hid (Nf.own d s = (Nf.kind d s.name == 5)) := by show _ = _; unfold Nf.own; rw [hsk, if_pos h2]
        clear hsk
        rcases h2 with rfl | rfl
        all_goals
          go_wp2_with fail
          refine (KX.out _ HKr.out).mono ?_
          rintro e w2 ⟨rfl, k2⟩
          have HK2 : Hid (Kept w w2) := HKr.out.then k2
          clear k2 s0 s1 sl p0 p1 pl
          go_wp2_with fail
          go_ret
          exact ⟨by rw [HE.out, HO.out]; rfl, HK2.out⟩
      · by_cases h4 : sk = 4 ∨ sk = 5
        · have HO : Hid (Nf.own d s = (Nf.kind d s.name == 6)) := by show _ = _; unfold Nf.own; rw [hsk, if_neg h2, if_pos h4]
          clear hsk h2
          rcases h4 with rfl | rfl
          all_goals
            go_wp2_with fail
            refine (KX.out _ HKr.out).mono ?_
            rintro e w2 ⟨rfl, k2⟩
            have HK2 : Hid (Kept w w2) := HKr.out.then k2
            clear k2 s0 s1 sl p0 p1 pl
            go_wp2_with fail
            go_ret
            exact ⟨by rw [HE.out, HO.out]; rfl, HK2.out⟩
        · have HO : Hid (Nf.own d s = true) := by show _ = _; unfold Nf.own; rw [hsk, if_neg h2, if_neg h4]
          have g2 : (sk == 2) = false := by rw [beq_eq_false_iff_ne]; omega
          have g3 : (sk == 3) = false := by rw [beq_eq_false_iff_ne]; omega
          have g4 : (sk == 4) = false := by rw [beq_eq_false_iff_ne]; omega
          have g5 : (sk == 5) = false := by rw [beq_eq_false_iff_ne]; omega
          clear hsk h2 h4
          go_wp2_with fail
          go_ret
          exact ⟨by rw [HE.out, HO.out]; rfl, HKr.out⟩
end Go.Proofs.Ytdodpeneehbbkab
