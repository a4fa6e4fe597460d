/- Jx -/
import Derived.Test.YtnfkjmafhaecgaaYJw
import Derived.Deep.RegionHeld3
import Derived.Deep.RegionWith
import Derived.Deep.QuietTactic
import Derived.BigQuiet

namespace Go.Proofs.Ytnfkjmafhaecgaa
open Go.RowKit Jf
attribute [local go_sem] run_store_complex
/-- They lie in memory, to be read. -/
structure JsD (w : World) (l : List Sp) (v : Value) : Prop where
  out : ∃ a cap, v = .slice a l.length cap ∧ Slc a l.length cap ∧ ∀ i (hi : i < l.length), ∃ b o, a = some ⟨b, o, none⟩ ∧ w.rangeAt b (o + i * 6) l[i].cells
theorem JsD.kept {w w' : World} {l : List Sp} {v : Value} (h : JsD w l v) (k : Kept w w') : JsD w' l v := by
  obtain ⟨a, cap, e, hs, hr⟩ := h.out
  refine ⟨a, cap, e, hs, fun i hi => ?_⟩
  obtain ⟨b, o, e2, h2⟩ := hr i hi
  exact ⟨b, o, e2, fun j v hv => k.cellS (h2 j v hv)⟩
theorem OwnJ.js {w : World} {base : Nat} {l : List Sp} {v : Value} (h : OwnJ w base l v) : JsD w l v := by
  obtain ⟨a, cap, rfl, hs⟩ := own_slice h.row
  refine ⟨a, cap, rfl, hs, fun i hi => ?_⟩
  obtain ⟨a', cap', e, h1, h2, h3⟩ := h.open
  injection e with e1 e2 e3
  subst e1
  obtain ⟨g, rfl⟩ := h3 (by omega)
  exact ⟨g, 0, rfl, by rw [Nat.zero_add]; exact (h.cell i hi).1⟩
theorem JsD.cut {w : World} {l : List Sp} {a : Option Addr} {n cap : Nat} (h : JsD w l (.slice a n cap)) (k : Nat) (hk : k ≤ l.length) : JsD w (l.drop k) (.slice (cutAt a k cap 6) (n - k) (cap - k)) := by
  obtain ⟨a', cap', e, hs, hr⟩ := h.out
  cases e
  have hc := hs.le
  refine ⟨cutAt a k cap 6, cap - k, by rw [List.length_drop], ⟨by rw [List.length_drop]; omega, by have := hs.big; omega, fun hn => ?_⟩, fun i hi => ?_⟩
  · unfold cutAt at hn
    by_cases hcap : k < cap
    · rw [if_neg (by omega)] at hn
      have := hs.nil (by cases a; rfl; cases hn)
      omega
    · omega
  · rw [List.length_drop] at hi
    obtain ⟨b, o, rfl, h2⟩ := hr (k + i) (by omega)
    refine ⟨b, o + k * 6, cutAt_some (by omega), ?_⟩
    have e : (l.drop k)[i]'(by rw [List.length_drop]; omega) = l[k + i] := by simp
    rw [e, show o + k * 6 + i * 6 = o + (k + i) * 6 by omega]
    exact h2
theorem JsD.item {w : World} {l : List Sp} {a : Option Addr} {n cap : Nat} (h : JsD w l (.slice a n cap)) (i : Nat) (hi : i < l.length) : ∃ b o, a = some ⟨b, o, none⟩ ∧ w.cell? ⟨b, o + i * 6, none⟩ = some (.bool l[i].lab) ∧ w.cell? ⟨b, o + i * 6 + 1, none⟩ = some (.string l[i].name) ∧ w.cell? ⟨b, o + i * 6 + 2, none⟩ = some (.int .i64 (l[i].num : Int)) ∧ w.cell? ⟨b, o + i * 6 + 3, none⟩ = some (.int .i64 (l[i].blk : Int)) ∧ w.cell? ⟨b, o + i * 6 + 4, none⟩ = some (.int .i64 (l[i].thr : Int)) ∧ w.cell? ⟨b, o + i * 6 + 5, none⟩ = some (.complex .f64 l[i].re l[i].im) ∧ b < w.heap.size := by
  obtain ⟨a', cap', e, hs, hr⟩ := h.out
  cases e
  obtain ⟨b, o, rfl, h2⟩ := hr i hi
  have h0 := h2 0 _ rfl
  exact ⟨b, o, rfl, h0, h2 1 _ rfl, h2 2 _ rfl, h2 3 _ rfl, h2 4 _ rfl, h2 5 _ rfl, block_lt_of_cell h0⟩
theorem JsD.open {w : World} {l : List Sp} {v : Value} (h : JsD w l v) : ∃ a cap, v = .slice a l.length cap ∧ l.length ≤ cap ∧ cap ≤ 9223372036854775807 := by
  obtain ⟨a, cap, rfl, hs, -⟩ := h.out
  exact ⟨a, cap, rfl, hs.le, hs.big⟩
set_option maxRecDepth 100000 in
set_option maxHeartbeats 400000 in
theorem sees_any (s x : Sp) (w : World) : Calls Try.prog 44 #[s.val, x.val] w fun e w' => e = .returned (.bool (decide (x.blk ≤ s.num))) ∧ Kept w w' := by
  unfold Sp.val
  go_enter Try.func44, Try.ntmps44
  go_wp2_with fail
  go_ret
  exact ⟨rfl, ((Kept.refl _).al _).al _⟩
set_option maxRecDepth 100000 in
set_option maxHeartbeats 1000000 in
theorem jtarget_any (s : Sp) (l : List Sp) (w : World) (lv : Value) (h : JsD w l lv) : Calls Try.prog 36 #[s.val, lv] w fun e w' => e = .returned (.int .i64 (stgt s l)) ∧ Kept w w' := by
  have HJ : Hid (JsD w l lv) := h
  obtain ⟨a, cap, rfl, hl, hc⟩ := h.open
  have SE : Hid (∀ (x : Sp) (W : World), Calls Try.prog 44 #[.agg #[.bool s.lab, .string s.name, .int .i64 (s.num : Int), .int .i64 (s.blk : Int), .int .i64 (s.thr : Int), .complex .f64 s.re s.im], .agg #[.bool x.lab, .string x.name, .int .i64 (x.num : Int), .int .i64 (x.blk : Int), .int .i64 (x.thr : Int), .complex .f64 x.re x.im]] W fun e w' => e = .returned (.bool (decide (x.blk ≤ s.num))) ∧ Kept W w') := fun x W => sees_any s x W
  clear h
  unfold Sp.val
  have hll : (l.length : Int) ≤ 9223372036854775807 := by omega
  clear hl hc
  go_enter Try.func36, Try.ntmps36
  obtain ⟨W0, hW0⟩ : ∃ W, w.alloc (.cells #[.bool s.lab, .string s.name, .int .i64 (s.num : Int), .int .i64 (s.blk : Int), .int .i64 (s.thr : Int), .complex .f64 s.re s.im] 64) = W := ⟨_, rfl⟩
  obtain ⟨P, hP⟩ : ∃ P, w.heap.size = P := ⟨_, rfl⟩
  have HP : Hid (BoxS W0 P [.bool s.lab, .string s.name, .int .i64 (s.num : Int), .int .i64 (s.blk : Int), .int .i64 (s.thr : Int), .complex .f64 s.re s.im]) := by rw [← hW0, ← hP]; exact box_newQ _ _ _
  have K0 : Hid (Kept w W0) := by rw [← hW0]; exact (Kept.refl _).al _
  have hWP : Hid _ := And.intro hW0 hP
  clear hW0 hP
  go_upto_region 1 with fail
  rw [hWP.out.1, hWP.out.2]
  clear hWP
  go_wp2_with fail
  go_loopw [9] (fun i wr => ∃ k : Nat, i = .int .i64 (k : Int) ∧ k ≤ l.length ∧ Hid (Kept W0 wr ∧ stgt s l = stgt s (l.drop k))) (fun i _ => l.length - (intOf i).toNat)
  case atStart => exact ⟨0, rfl, Nat.zero_le _, Kept.refl _, rfl⟩
  case round =>
    obtain ⟨k, rfl, hk, HI⟩ := hrel
    by_cases hlt : k < l.length
    · have hki : (k : Int) < (l.length : Int) := by omega
      obtain ⟨b, o, rfl, c0, c1, c2, c3, c4, c5, cl⟩ := (HJ.out.kept (K0.out.then HI.out.1)).item k hlt
      have bp := HP.out.kept HI.out.1
      have p0 := bp.cell 0 rfl
      have p1 := bp.cell 1 rfl
      have p2 := bp.cell 2 rfl
      have p3 := bp.cell 3 rfl
      have p4 := bp.cell 4 rfl
      have p5 := bp.cell 5 rfl
      have pl := bp.lt
      have hst : stgt s l = if l[k].lab = true ∧ l[k].name = s.name ∧ l[k].blk ≤ s.num then (l[k].num : Int) else stgt s (l.drop (k + 1)) := by rw [HI.out.2, stgt_step s l k hlt]
      obtain ⟨x, hx⟩ : ∃ x, l[k] = x := ⟨_, rfl⟩
      rw [hx] at c0 c1 c2 c3 c4 c5 hst
      have HST : Hid _ := hst
      have SX := SE.out x
      have SX : Hid _ := SX
      have HKW : Hid (Kept W0 wr) := HI.out.1
      clear bp hst hx HI
      cases hlab : x.lab with
      | false =>
        rw [hlab] at c0
        have HE : Hid (stgt s l = stgt s (l.drop (k + 1))) := by show _ = _; rw [HST.out, hlab, if_neg (by simp)]
        go_wp2_with fail
        go_roundw
        case rel => exact ⟨k + 1, by go_num, by omega, HKW.out.al _, HE.out⟩
        case measure => simp [intOf]; omega
      | true =>
        rw [hlab] at c0
        by_cases hnm : x.name = s.name
        · have hne : (x.name.toList == s.name.toList) = true := by rw [eqB]; exact decide_eq_true hnm
          by_cases hbk : x.blk ≤ s.num
          · have SX2 : Hid (∀ W, Calls Try.prog 44 #[.agg #[.bool s.lab, .string s.name, .int .i64 (s.num : Int), .int .i64 (s.blk : Int), .int .i64 (s.thr : Int), .complex .f64 s.re s.im], .agg #[.bool true, .string x.name, .int .i64 (x.num : Int), .int .i64 (x.blk : Int), .int .i64 (x.thr : Int), .complex .f64 x.re x.im]] W fun e w' => e = .returned (.bool true) ∧ Kept W w') := fun W => by have := SX.out W; rwa [hlab, decide_eq_true hbk] at this
            have HE : Hid (stgt s l = (x.num : Int)) := by show _ = _; rw [HST.out, if_pos ⟨hlab, hnm, hbk⟩]
            clear hlab hnm hbk SX HST
            go_wp2_with fail
            refine (SX2.out _).mono ?_
            rintro e w2 ⟨rfl, k2⟩
            have K2 : Hid (Kept W0 w2) := (HKW.out.al _).then k2
            have d2 : w2.cell? ⟨wr.heap.size, 2, none⟩ = some (.int .i64 (x.num : Int)) := k2.cellS (by simp)
            clear k2
            go_wp2_with fail
            go_ret
            exact ⟨by rw [HE.out]; rfl, K0.out.then K2.out⟩
          · have SX2 : Hid (∀ W, Calls Try.prog 44 #[.agg #[.bool s.lab, .string s.name, .int .i64 (s.num : Int), .int .i64 (s.blk : Int), .int .i64 (s.thr : Int), .complex .f64 s.re s.im], .agg #[.bool true, .string x.name, .int .i64 (x.num : Int), .int .i64 (x.blk : Int), .int .i64 (x.thr : Int), .complex .f64 x.re x.im]] W fun e w' => e = .returned (.bool false) ∧ Kept W w') := fun W => by have := SX.out W; rwa [hlab, decide_eq_false hbk] at this
            have HE : Hid (stgt s l = stgt s (l.drop (k + 1))) := by show _ = _; rw [HST.out, if_neg (fun h => hbk h.2.2)]
            clear hlab hnm hbk SX HST
            go_wp2_with fail
            refine (SX2.out _).mono ?_
            rintro e w2 ⟨rfl, k2⟩
            have K2 : Hid (Kept W0 w2) := (HKW.out.al _).then k2
            clear k2
            go_wp2_with fail
            go_roundw
            case rel => exact ⟨k + 1, by go_num, by omega, K2.out, HE.out⟩
            case measure => simp [intOf]; omega
        · have hne : (x.name.toList == s.name.toList) = false := by rw [eqB]; exact decide_eq_false hnm
          have HE : Hid (stgt s l = stgt s (l.drop (k + 1))) := by show _ = _; rw [HST.out, if_neg (fun h => hnm h.2.1)]
          clear hlab hnm SX HST
          go_wp2_with fail
          go_roundw
          case rel => exact ⟨k + 1, by go_num, by omega, HKW.out.al _, HE.out⟩
          case measure => simp [intOf]; omega
    · have hki : ¬ (k : Int) < (l.length : Int) := by omega
      have HE : Hid (stgt s l = -1) := by show _ = _; rw [HI.out.2, List.drop_eq_nil_of_le (by omega)]; rfl
      have HK : Hid (Kept w wr) := K0.out.then HI.out.1
      go_wp2_with fail
      go_ret
      exact ⟨by rw [HE.out]; rfl, HK.out⟩
theorem spt_len (t : List (List St)) : ∀ thr p, (spt t thr p).length ≤ tsz t := by
  induction t with
  | nil => intro thr p; simp [spt]
  | cons b t ih => intro thr p; rw [spt, tsz, List.length_append]; have := spm_len b p thr p; have := ih (thr + 1) (p + St.sizes b); omega
theorem tsz_take (t : List (List St)) (k : Nat) (h : k < t.length) : tsz (t.take (k + 1)) = tsz (t.take k) + St.sizes t[k] := by
  rw [List.take_succ_eq_append_getElem h, tsz_append]; simp [tsz]
theorem tsz_take_le (t : List (List St)) (k : Nat) : tsz (t.take k) ≤ tsz t := by
  have := tsz_append (t.take k) (t.drop k)
  rw [List.take_append_drop] at this
  omega
set_option maxRecDepth 100000 in
set_option maxHeartbeats 1000000 in
theorem spots_any (d : List Dc) (t : List (List St)) (w : World) (dv tv : Value) (hd : DsIn w 0 w.heap.size d dv) (ht : TsIn w 0 w.heap.size t tv) (hn : tsz t ≤ 1073741824) : Calls Try.prog 30 #[.agg #[dv, tv]] w fun e w' => ∃ v, e = .returned v ∧ Hid (OwnJ w' w.heap.size (spt t 0 0) v ∧ Kept w w') := by
  have HA : Hid (TsIn w 0 w.heap.size t tv) := ht
  obtain ⟨ad, capd, rfl, -⟩ := hd.open
  obtain ⟨a, cap, rfl, hl, hl2, hcap⟩ := ht.open
  have HN : Hid (tsz t ≤ 1073741824) := hn
  clear hd ht hn hl2 hcap
  go_enter Try.func30, Try.ntmps30
  go_upto_region 2 with fail
  obtain ⟨W0, hW0⟩ : ∃ W, (w.alloc (.cells #[.slice ad d.length capd, .slice a t.length cap] 27)).alloc (.cells #[.int .i64 0, .int .i64 0, .slice none 0 0] 82) = W := ⟨_, rfl⟩
  have K0 : Hid (Kept w W0) := by rw [← hW0]; exact ((Kept.refl _).al _).al _
  have hz0 : W0.heap.size = w.heap.size + 2 := by rw [← hW0]; simp
  have p1 : W0.cell? ⟨w.heap.size, 1, none⟩ = some (.slice a t.length cap) := by rw [← hW0]; simp
  have HB : Hid (BoxS W0 (w.heap.size + 1) [.int .i64 0, .int .i64 0, .slice none 0 0]) := by
    rw [← hW0]
    have := box_newQ (w.alloc (.cells #[.slice ad d.length capd, .slice a t.length cap] 27)) #[.int .i64 0, .int .i64 0, .slice none 0 0] 82
    rwa [World.size_alloc] at this
  have HZ0 : Hid (W0.heap.size = w.heap.size + 2) := hz0
  rw [hW0]
  clear hW0 hz0
  go_wp2_with fail
  go_loopw [9] (fun i wr => ∃ (k : Nat) (x : Int) (v : Value), i = .int .i64 (k : Int) ∧ k ≤ t.length ∧ Hid (BoxS wr (w.heap.size + 1) [.int .i64 x, .int .i64 (tsz (t.take k) : Int), v] ∧ OwnJ wr (w.heap.size + 2) (spt (t.take k) 0 0) v ∧ Kept w wr)) (fun i _ => t.length - (intOf i).toNat)
  case atStart => exact ⟨0, 0, _, rfl, Nat.zero_le _, HB.out, OwnJ.nil _ _ (by rw [HZ0.out]; exact Nat.le_refl _), K0.out⟩
  case round =>
    obtain ⟨k, x, v, rfl, hk, HI⟩ := hrel
    by_cases hlt : k < t.length
    · have hki : (k : Int) < (t.length : Int) := by omega
      obtain ⟨b, o, a1, n1, q1, rfl, _, hb, _, c0, k1⟩ := HA.out.item (HI.out.2.2.stays (Nat.le_refl _)) k hlt
      have bx := HI.out.1
      have x0 := bx.cell 0 rfl
      have xf := bx.fz 0
      have xl := bx.lt
      have hsl := tsz_take t k hlt
      have hle := tsz_take_le t (k + 1)
      have HSL : Hid (tsz (t.take (k + 1)) = tsz (t.take k) + St.sizes t[k] ∧ tsz (t.take (k + 1)) ≤ tsz t) := ⟨hsl, hle⟩
      obtain ⟨W1, hW1⟩ : ∃ W, wr.setCell ⟨w.heap.size + 1, 0, none⟩ (.int .i64 (k : Int)) = W := ⟨_, rfl⟩
      have hbx1 : BoxS W1 (w.heap.size + 1) [.int .i64 (k : Int), .int .i64 (tsz (t.take k) : Int), v] := by rw [← hW1]; exact bx.set 0 [.int .i64 (k : Int)] (by simp)
      have ho1 : OwnJ W1 (w.heap.size + 2) (spt (t.take k) 0 0) v := by rw [← hW1]; exact HI.out.2.1.bu (M := (· = w.heap.size + 1)) (Bu.set (M := (· = w.heap.size + 1)) (B := w.heap.size + 1) (Bu.refl _ _) (.inl rfl) 0 _) (fun j e c => by have := (HI.out.2.1.row.lt j e).1; omega)
      have hk1 : Kept w W1 := by rw [← hW1]; exact Below.setCell HI.out.2.2 (by show w.heap.size ≤ w.heap.size + 1; omega) _
      have k1' : StsIn W1 0 w.heap.size t[k] (.slice a1 n1 q1) := k1.stays fun j hj => by rw [← hW1]; exact heap_setCells (w.heap.size + 1) [_] 0 wr j (by have := hj.2; omega)
      have P : Hid (Calls Try.prog 43 #[.pointer (some ⟨w.heap.size + 1, 0, none⟩), .slice a1 n1 q1] W1 fun r w' => (∃ v, r = .returned v) ∧ ∃ v', Hid (Th W1 (w.heap.size + 1) (w.heap.size + 2) v w' (spt (t.take k) 0 0 ++ spm t[k] (tsz (t.take k)) k (tsz (t.take k))) k (tsz (t.take k) + St.sizes t[k]) v')) :=
        through_any t[k] W1 w.heap.size (w.heap.size + 1) (w.heap.size + 2) (.slice a1 n1 q1) v (spt (t.take k) 0 0) k (tsz (t.take k)) (Nat.le_succ _) (Nat.lt_succ_self _) ho1.le k1' hbx1 ho1 (by have := HN.out; omega) (spt_len _ _ _)
      have HKW1 : Hid (Kept w W1) := hk1
      have HOB : Hid (∀ j, v.ownBlock = some j → w.heap.size ≤ j) := fun j e => by have := (ho1.row.lt j e).1; omega
      have HW1 : Hid _ := hW1
      clear hsl hle hbx1 ho1 hk1 k1' k1 bx hW1 HI
      go_upto_region 6 with fail
      rw [HW1.out]
      clear x0 xf xl c0
      go_wp2_with fail
      refine Calls.mono P.out ?_
      rintro r w3 ⟨⟨v0, rfl⟩, v3, H3⟩
      have hk3 : Kept w w3 := H3.out.bu.kept HKW1.out fun i c => by
        rcases c with c | c
        · omega
        · exact HOB.out i c
      have HR : Hid (BoxS w3 (w.heap.size + 1) [.int .i64 (k : Int), .int .i64 (tsz (t.take (k + 1)) : Int), v3] ∧ OwnJ w3 (w.heap.size + 2) (spt (t.take (k + 1)) 0 0) v3 ∧ Kept w w3) := by
        refine ⟨?_, ?_, hk3⟩
        · rw [HSL.out.1]; exact H3.out.box
        · rw [spt_take t k hlt]; exact H3.out.own
      clear hk3 H3
      go_wp2_with fail
      go_roundw
      case rel => exact ⟨k + 1, k, v3, by go_num, by omega, HR⟩
      case measure => simp [intOf]; omega
    · have hki : ¬ (k : Int) < (t.length : Int) := by omega
      have hfin : OwnJ wr w.heap.size (spt t 0 0) v := by
        have h := HI.out.2.1
        rw [List.take_of_length_le (by omega)] at h
        exact h.lower (Nat.le_add_right _ _)
      have HF : Hid (OwnJ wr w.heap.size (spt t 0 0) v ∧ Kept w wr) := ⟨hfin, HI.out.2.2⟩
      have bx := HI.out.1
      have x2 := bx.cell 2 rfl
      have xl := bx.lt
      clear bx hfin
      go_wp2_with fail
      go_ret
      exact ⟨v, rfl, HF⟩
end Go.Proofs.Ytnfkjmafhaecgaa
