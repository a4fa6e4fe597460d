/- Nu -/
import Derived.Test.YtbfikeegacapjaaWNt
import Derived.Deep.CutBlock
import Derived.Deep.DeepCutAuto
import Derived.Deep.RegionWith

namespace Go.Proofs.Ytbfikeegacapjaa
open Go.RowKit
attribute [local go_sem] run_store_complex
set_option maxRecDepth 100000 in
set_option maxHeartbeats 2000000 in
theorem turned_any (d : List Dc) (l : List Int) (w : World) (dv lv : Value) (a2 : Option Addr) (n2 q2 : Nat) (ho : OwnD w 0 d dv) (h0 : 0 < d.length) (h1 : d.length ≤ 1000) (ht : TurnedD d d.length) (hl : IntsR w w.heap.size l lv) :
    Calls Try.prog 8 #[.agg #[dv, .slice a2 n2 q2], lv] w fun e w' => ∃ (ds : List Dc) (a1 : Option Addr) (q1 : Nat), e = .returned (.agg #[.slice a1 ds.length q1, .slice a2 n2 q2]) ∧ Hid (Kept w w' ∧ OwnD w' w.heap.size ds (.slice a1 ds.length q1) ∧ TurnedD ds d.length) := by
  have HO : Hid (OwnD w 0 d dv) := ho
  have HTD : Hid (TurnedD d d.length) := ht
  obtain ⟨la, lcap, rfl, hl1, hl2, hl3, hl4⟩ := hl.out
  obtain ⟨da, dcap, rfl, hslc⟩ := own_slice ho.row
  have HL : Hid (IntsR w w.heap.size l (.slice la l.length lcap)) := hl
  clear ho ht hl hslc hl3 hl4
  go_enter Try.func8, Try.ntmps8
  obtain ⟨W0, hW0⟩ : ∃ W, (w.alloc (.cells #[.slice da d.length dcap, .slice a2 n2 q2] 27)).alloc (.cells #[.slice none 0 0, .slice none 0 0] 27) = W := ⟨_, rfl⟩
  have hz0 : W0.heap.size = w.heap.size + 2 := by rw [← hW0]; simp
  have k0 : Kept w W0 := by rw [← hW0]; exact ((Kept.refl _).al _).al _
  have HW0 : Hid (W0.heap.size = w.heap.size + 2 ∧ Kept w W0) := ⟨hz0, k0⟩
  have hb1 : BoxS W0 (w.heap.size) [.slice da d.length dcap, .slice a2 n2 q2] := by rw [← hW0]; exact (box_newQ _ _ _).kept ((Kept.refl _).al _)
  have hb2 : BoxS W0 (w.heap.size + 1) [.slice none 0 0, .slice none 0 0] := by
    rw [← hW0]
    have := box_newQ (w.alloc (.cells #[.slice da d.length dcap, .slice a2 n2 q2] 27)) #[.slice none 0 0, .slice none 0 0] 27
    rwa [show (w.alloc (.cells #[.slice da d.length dcap, .slice a2 n2 q2] 27)).heap.size = w.heap.size + 1 by simp] at this
  have HB : Hid (BoxS W0 (w.heap.size) [.slice da d.length dcap, .slice a2 n2 q2] ∧ BoxS W0 (w.heap.size + 1) [.slice none 0 0, .slice none 0 0]) := ⟨hb1, hb2⟩
  have HSRC : Hid (∀ W, Kept W0 W → W.ownsRow 0 38 4 (.slice da d.length dcap) d.length (dcs d)) := fun W hW => (HO.out.bu (M := fun _ => False) (Bu.of (k0.then hW)) fun _ _ _ c => c).row
  have HT0 : Hid ((W0.alloc (.cells #[] 38)).ownsRow (w.heap.size + 2) 38 4 (.slice (some ⟨w.heap.size + 2, 0, none⟩) 0 0) 0 []) := by
    rw [← hz0]; exact World.ownsRow_lit W0 #[] 0 (Nat.le_refl _) (by unfold maxLen; omega) (by simp)
  have c0 := hb1.cell 0 rfl
  have f0 := hb1.fz 0
  have l0 := hb1.lt
  have hW0' : Hid _ := hW0
  clear hW0 hb1 hb2 k0
  go_upto_region 1 with fail
  rw [show _ = W0 from hW0'.out]
  have hd48 : (0 + d.length) * 48 ≤ 140737488355328 := by omega
  go_wp2_with (at_builtin; go_loud (refine wpList_append_rows (base := w.heap.size + 2) (n := 0) (xs := []) (by rfl) _ _ _ (by rfl) elemDc (by rfl) HT0.out (by rfl) (HSRC.out _ ((Kept.refl _).al _)) ?one ?byt ?len ?base ?_))
  case one => exact dcs_cells d
  case byt => omega
  case len => unfold maxLen; omega
  case base => simp; omega
  intro ad cp w1 HG
  have hzz := HW0.out.1
  have ho1 : OwnD w1 (w.heap.size + 2) d (.slice ad d.length cp) := ⟨by have := HG.out.own; simpa using this, by have := HG.out.grown.size; simp at this; omega⟩
  obtain ⟨g, rfl⟩ : ∃ g, ad = some ⟨g, 0, none⟩ := by
    rcases ho1.row.2 with ⟨e0, e1⟩ | ⟨g, cap', cur, e0, -⟩
    · omega
    · injection e0 with e0; exact ⟨g, e0⟩
  have hgb : w.heap.size + 2 ≤ g := (ho1.row.lt g rfl).1
  have hk1 : ∀ j, j < W0.heap.size → w1.heap[j]? = W0.heap[j]? := fun j hj => (HG.out.grown.block j (by simp; omega) (fun e => by injection e with e; have e' : j = w.heap.size + 2 := e; have := HW0.out.1; omega)).trans (((Kept.refl W0).al _).block j hj)
  have hz1 : W0.heap.size ≤ w1.heap.size := by have := HG.out.grown.size; simp at this; omega
  have hb1 : BoxS w1 w.heap.size [.slice da d.length dcap, .slice a2 n2 q2] := HB.out.1.off (hk1 _ (by have := HW0.out.1; omega)) hz1
  have hb2 : BoxS w1 (w.heap.size + 1) [.slice none 0 0, .slice none 0 0] := HB.out.2.off (hk1 _ (by have := HW0.out.1; omega)) hz1
  have hkw : Kept W0 w1 := HG.out.below HT0.out (by omega) (by simp; omega) ((Kept.refl _).al _)
  obtain ⟨b0, hb0⟩ : ∃ b0, w.heap.size + 2 = b0 := ⟨_, rfl⟩
  have HTN : Hid (TN w (w1.setCell ⟨w.heap.size, 0, none⟩ (.slice (some ⟨g, 0, none⟩) d.length cp)) w.heap.size (w.heap.size + 1) b0 d.length d (.slice (some ⟨g, 0, none⟩) d.length cp) (.slice a2 n2 q2)) := by
    have hz := HW0.out.1
    refine ⟨?_, HTD.out, ?_, ?_, ?_, Nat.le_refl _, by omega, by omega⟩
    · rw [← hb0]
      exact ho1.bu (M := (· = w.heap.size)) (Bu.set (M := (· = w.heap.size)) (Bu.refl _ _) (.inl rfl) 0 _) (fun j h1 _ e => by omega)
    · exact hb1.set 0 [.slice (some ⟨g, 0, none⟩) d.length cp] (by simp)
    · exact hb2.off (heap_setCells w.heap.size [_] 0 w1 (w.heap.size + 1) (by omega)) (by rw [setCell_size]; exact Nat.le_refl _)
    · exact Below.setCell (HW0.out.2.then hkw) (Nat.le_refl _) _
  have p0 := hb1.cell 0 rfl
  have pf := hb1.fz 0
  have pl := hb1.lt
  clear c0 f0 l0 HG ho1 hgb hk1 hz1 hb1 hb2 hkw hb0 hz0 HB HSRC HT0 hd48 hzz
  go_upto_region 2 with fail
  obtain ⟨W1, hW1⟩ : ∃ W, w1.setCell ⟨w.heap.size, 0, none⟩ (.slice (some ⟨g, 0, none⟩) d.length cp) = W := ⟨_, rfl⟩
  rw [hW1] at HTN ⊢
  clear hW1 p0 pf pl
  go_wp2_with fail
  go_loopg [14] l.length (fun gk i wr => ∃ (k : Nat) (ds : List Dc), i = .int .i64 (k : Int) ∧ k ≤ l.length ∧ l.length - k ≤ gk ∧ Hid (TN w wr w.heap.size (w.heap.size + 1) b0 d.length ds (.slice (some ⟨g, 0, none⟩) d.length cp) (.slice a2 n2 q2)))
  case atStart => exact ⟨0, d, rfl, Nat.zero_le _, by omega, HTN⟩
  case round =>
    obtain ⟨k, ds, rfl, hk, hgk, HT⟩ := hrel
    have hlen := HT.out.td.len
    have p0 := HT.out.box.cell 0 rfl
    have p1 := HT.out.box.cell 1 rfl
    have pl := HT.out.box.lt
    have r0 := HT.out.res.cell 0 rfl
    have r1 := HT.out.res.cell 1 rfl
    have rf0 := HT.out.res.fz 0
    have rf1 := HT.out.res.fz 1
    have rl := HT.out.res.lt
    have HEND : Hid (∀ (W : World), Kept wr W → ∃ (ds' : List Dc) (a1 : Option Addr) (q1 : Nat), Ending.returned (.agg #[.slice (some ⟨g, 0, none⟩) d.length cp, .slice a2 n2 q2]) = .returned (.agg #[.slice a1 ds'.length q1, .slice a2 n2 q2]) ∧ Hid (Kept w (W.setCells (w.heap.size + 1) 0 [.slice (some ⟨g, 0, none⟩) d.length cp, .slice a2 n2 q2]) ∧ OwnD (W.setCells (w.heap.size + 1) 0 [.slice (some ⟨g, 0, none⟩) d.length cp, .slice a2 n2 q2]) w.heap.size ds' (.slice a1 ds'.length q1) ∧ TurnedD ds' d.length)) := by
      intro W hW
      have h := HT.out.keep hW
      have e1 := h.hi
      refine ⟨ds, some ⟨g, 0, none⟩, cp, by rw [hlen], Below.setCells h.kept (by omega) _ _, ?_, h.td⟩
      rw [hlen]
      exact (h.own.bu (M := (· = w.heap.size + 1)) (Bu.sets (M := (· = w.heap.size + 1)) (Bu.refl _ _) (.inl rfl) 0 _) (fun j hj _ e => by omega)).lower (by omega)
    have HRB : Hid (BoxS wr (w.heap.size + 1) [.slice none 0 0, .slice none 0 0]) := HT.out.res
    by_cases hlt : k < l.length
    · have hki : (k : Int) < (l.length : Int) := by omega
      obtain ⟨la', lc', el, _, _, hl3, hl4⟩ := HL.out.out
      injection el with el _ elc
      subst el
      subst elc
      obtain ⟨b, o, rfl, hbl, cl0⟩ := hl3 k hlt
      have hxl := hl4 _ (List.getElem_mem hlt)
      have cl := HT.out.kept.cellS cl0
      have hbl2 : b < wr.heap.size := by have := HT.out.kept.size; omega
      generalize l[k] = x at *
      clear hl3 hl4 cl0
      by_cases hkd : k < d.length
      · have hkdi : ¬ ((d.length : Int) ≤ (k : Int)) := by omega
        obtain ⟨c, hc9, hcx, hP⟩ := pick_nat x 9 (by omega) (by omega)
        have PK : Hid (∀ w, Calls Try.prog 13 #[.int .i64 x, .int .i64 9] w fun e w' => e = .returned (.int .i64 (c : Int)) ∧ w' = w) := hP
        have hw1 : IntKind.i64.wrap ((k : Int) + 1) = (k : Int) + 1 := by rw [IntKind.wrap_i64]; omega
        have hkds : k < ds.length := by omega
        obtain ⟨x0, x1, x2, x3, xf, xl⟩ := HT.out.own.cell k hkds
        clear hP r0 r1 rf0 rf1 rl p1 HEND HRB
        by_cases h6 : c = 6
        · subst h6
          obtain ⟨z, hz⟩ : ∃ z, IntKind.i64.wrap (x.tdiv 9) = z := ⟨_, rfl⟩
          obtain ⟨c2, hc2, hcx2, hP2⟩ := pick_nat z 6 (by omega) (by omega)
          have PK2 : Hid (∀ w, Calls Try.prog 13 #[.int .i64 z, .int .i64 6] w fun e w' => e = .returned (.int .i64 (c2 : Int)) ∧ w' = w) := hP2
          clear hP2 hcx2
          have hy := HT.out.td.fd _ (List.getElem_mem hkds)
          have hyo := HT.out.td.ok _ (List.getElem_mem hkds)
          have hw2 : IntKind.i64.wrap (1 + (c2 : Int)) = 1 + (c2 : Int) := by rw [IntKind.wrap_i64]; omega
          have HNEW : Hid _ := HT.out.field k 0 ⟨1 + (c2 : Int), ds[k].name, ds[k].n, ds[k].re, ds[k].im⟩ (.int .i64 (1 + (c2 : Int))) hkds (by omega) (by rw [List.getElem?_eq_getElem hkds]; rfl) ⟨⟨hy.1.nm, by show _ ≤ 1 + (c2 : Int); omega, by show 1 + (c2 : Int) ≤ _; omega⟩, hy.2⟩ hyo
          have HNEW2 : Hid _ := (HT.out.keep (Kept.refl wr).dr).field k 0 ⟨1 + (c2 : Int), ds[k].name, ds[k].n, ds[k].re, ds[k].im⟩ (.int .i64 (1 + (c2 : Int))) hkds (by omega) (by rw [List.getElem?_eq_getElem hkds]; rfl) ⟨⟨hy.1.nm, by show _ ≤ 1 + (c2 : Int); omega, by show 1 + (c2 : Int) ≤ _; omega⟩, hy.2⟩ hyo
          clear hy hyo
          go_wp2_with fail
          refine (PK.out _).mono ?_
          rintro e w' ⟨rfl, rfl⟩
          go_upto_region 8 with fail
          go_region_with (go_at_call 13; refine (PK2.out _).mono ?_; rintro e w5 ⟨rfl, rfl⟩)
          all_goals
            go_upto_region 13 with fail
            have HX : Hid (∃ ds', TN w (w'.setCell ⟨g, k * 4, none⟩ (.int .i64 (1 + (c2 : Int)))).drew w.heap.size (w.heap.size + 1) b0 d.length ds' (.slice (some ⟨g, 0, none⟩) d.length cp) (.slice a2 n2 q2)) := ⟨_, HNEW.out.keep (Kept.refl _).dr⟩
            generalize (w'.setCell ⟨g, k * 4, none⟩ (.int .i64 (1 + (c2 : Int)))).drew = W9 at HX ⊢
            clear HNEW HNEW2 hc2 x0 x1 x2 x3 xf xl p0 pl
            obtain ⟨ds2, HT2⟩ := HX.out
            have hk2 : k < ds2.length := by have := HT2.td.len; omega
            have HTX : Hid (TN w W9 w.heap.size (w.heap.size + 1) b0 d.length ds2 (.slice (some ⟨g, 0, none⟩) d.length cp) (.slice a2 n2 q2)) := HT2
            have p0 := HT2.box.cell 0 rfl
            have pl := HT2.box.lt
            obtain ⟨x0, x1, x2, x3, xf, xl⟩ := HT2.own.cell k hk2
            have HK2 : Hid (k < ds2.length) := hk2
            clear x0 x1 x2 HT2 HX
            go_wp2_with fail
            go_roundg (l.length - (k + 1))
            case rel =>
              have hy := HTX.out.td.fd _ (List.getElem_mem HK2.out)
              have hfl : floatOfInt .f64 ((k : Int) + 1) = Fp.rung (k + 1) := by
                rw [rung_of_int ((k : Int) + 1) (by omega) (by omega)]; congr 1
              have := HTX.out.field k 3 ⟨ds2[k].kind, ds2[k].name, ds2[k].n, floatOfInt .f64 ((k : Int) + 1), 4607182418800017408⟩ (.complex .f64 (floatOfInt .f64 ((k : Int) + 1)) 4607182418800017408) HK2.out (by omega) (by rw [List.getElem?_eq_getElem HK2.out]; rfl) ⟨⟨hy.1.nm, hy.1.lo, hy.1.hi⟩, hy.2⟩ ⟨by rw [hfl]; exact ok_rung (k + 1) (by omega), eql_oneU⟩
              exact ⟨k + 1, _, by go_num, by omega, Nat.le_refl _, this⟩
            case measure => omega
        · by_cases h7 : c = 7
          · subst h7
            obtain ⟨z, hz⟩ : ∃ z, IntKind.i64.wrap (x.tdiv 9) = z := ⟨_, rfl⟩
            obtain ⟨c2, hc2, hcx2, hP2⟩ := pick_nat z d.length (by omega) (by omega)
            have PK2 : Hid (∀ w, Calls Try.prog 13 #[.int .i64 z, .int .i64 (d.length : Int)] w fun e w' => e = .returned (.int .i64 (c2 : Int)) ∧ w' = w) := hP2
            clear hP2 hcx2
            have hy := HT.out.td.fd _ (List.getElem_mem hkds)
            have hyo := HT.out.td.ok _ (List.getElem_mem hkds)
            have hc2s : c2 < ds.length := by omega
            obtain ⟨-, y1, -, -, -, -⟩ := HT.out.own.cell c2 hc2s
            have hc2i : (c2 : Int) < (d.length : Int) := by omega
            have hy2 := HT.out.td.fd _ (List.getElem_mem hc2s)
            have HNEW : Hid _ := HT.out.field k 1 ⟨ds[k].kind, ds[c2].name, ds[k].n, ds[k].re, ds[k].im⟩ (.string ds[c2].name) hkds (by omega) (by rw [List.getElem?_eq_getElem hkds]; rfl) ⟨⟨hy2.1.nm, hy.1.lo, hy.1.hi⟩, hy2.2⟩ hyo
            have HNEW2 : Hid _ := (HT.out.keep (Kept.refl wr).dr).field k 1 ⟨ds[k].kind, ds[c2].name, ds[k].n, ds[k].re, ds[k].im⟩ (.string ds[c2].name) hkds (by omega) (by rw [List.getElem?_eq_getElem hkds]; rfl) ⟨⟨hy2.1.nm, hy.1.lo, hy.1.hi⟩, hy2.2⟩ hyo
            generalize ds[c2].name = nmx at *
            clear hy hyo hy2
            go_wp2_with fail
            refine (PK.out _).mono ?_
            rintro e w' ⟨rfl, rfl⟩
            go_upto_region 10 with fail
            go_region_with (go_at_call 13; refine (PK2.out _).mono ?_; rintro e w5 ⟨rfl, rfl⟩)
            all_goals
              go_upto_region 13 with fail
              have HX : Hid (∃ ds', TN w (w'.setCell ⟨g, k * 4 + 1, none⟩ (.string nmx)).drew w.heap.size (w.heap.size + 1) b0 d.length ds' (.slice (some ⟨g, 0, none⟩) d.length cp) (.slice a2 n2 q2)) := ⟨_, HNEW.out.keep (Kept.refl _).dr⟩
              generalize (w'.setCell ⟨g, k * 4 + 1, none⟩ (.string nmx)).drew = W9 at HX ⊢
              clear HNEW HNEW2 hc2 x0 x1 x2 x3 xf xl p0 pl y1
              obtain ⟨ds2, HT2⟩ := HX.out
              have hk2 : k < ds2.length := by have := HT2.td.len; omega
              have HTX : Hid (TN w W9 w.heap.size (w.heap.size + 1) b0 d.length ds2 (.slice (some ⟨g, 0, none⟩) d.length cp) (.slice a2 n2 q2)) := HT2
              have p0 := HT2.box.cell 0 rfl
              have pl := HT2.box.lt
              obtain ⟨x0, x1, x2, x3, xf, xl⟩ := HT2.own.cell k hk2
              have HK2 : Hid (k < ds2.length) := hk2
              clear x0 x1 x2 HT2 HX
              go_wp2_with fail
              go_roundg (l.length - (k + 1))
              case rel =>
                have hy := HTX.out.td.fd _ (List.getElem_mem HK2.out)
                have hfl : floatOfInt .f64 ((k : Int) + 1) = Fp.rung (k + 1) := by
                  rw [rung_of_int ((k : Int) + 1) (by omega) (by omega)]; congr 1
                have := HTX.out.field k 3 ⟨ds2[k].kind, ds2[k].name, ds2[k].n, floatOfInt .f64 ((k : Int) + 1), 4607182418800017408⟩ (.complex .f64 (floatOfInt .f64 ((k : Int) + 1)) 4607182418800017408) HK2.out (by omega) (by rw [List.getElem?_eq_getElem HK2.out]; rfl) ⟨⟨hy.1.nm, hy.1.lo, hy.1.hi⟩, hy.2⟩ ⟨by rw [hfl]; exact ok_rung (k + 1) (by omega), eql_oneU⟩
                exact ⟨k + 1, _, by go_num, by omega, Nat.le_refl _, this⟩
              case measure => omega
          · by_cases h8 : c = 8
            · subst h8
              have hy := HT.out.td.fd _ (List.getElem_mem hkds)
              have hyo := HT.out.td.ok _ (List.getElem_mem hkds)
              have hnew := HT.out.field k 1 ⟨ds[k].kind, ⟨#[111, 116, 104, 101, 114]⟩, ds[k].n, ds[k].re, ds[k].im⟩ (.string ⟨#[111, 116, 104, 101, 114]⟩) hkds (by omega) (by rw [List.getElem?_eq_getElem hkds]; rfl) ⟨⟨by show (⟨#[111, 116, 104, 101, 114]⟩ : ByteArray).size ≤ maxLen; unfold maxLen; decide +kernel, hy.1.lo, hy.1.hi⟩, by show (⟨#[111, 116, 104, 101, 114]⟩ : ByteArray).size ≤ 5; decide +kernel⟩ hyo
              obtain ⟨W8, hW8⟩ : ∃ W, wr.setCell ⟨g, k * 4 + 1, none⟩ (.string ⟨#[111, 116, 104, 101, 114]⟩) = W := ⟨_, rfl⟩
              rw [hW8] at hnew
              have HX : Hid (∃ ds', TN w W8 w.heap.size (w.heap.size + 1) b0 d.length ds' (.slice (some ⟨g, 0, none⟩) d.length cp) (.slice a2 n2 q2)) := ⟨_, hnew⟩
              clear hy hyo hnew
              go_wp2_with fail
              refine (PK.out _).mono ?_
              rintro e w' ⟨rfl, rfl⟩
              go_upto_region 13 with fail
              clear x0 x1 x2 x3 xf xl p0 pl hW8
              obtain ⟨ds2, HT2⟩ := HX.out
              have hk2 : k < ds2.length := by have := HT2.td.len; omega
              have HTX : Hid (TN w W8 w.heap.size (w.heap.size + 1) b0 d.length ds2 (.slice (some ⟨g, 0, none⟩) d.length cp) (.slice a2 n2 q2)) := HT2
              have p0 := HT2.box.cell 0 rfl
              have pl := HT2.box.lt
              obtain ⟨x0, x1, x2, x3, xf, xl⟩ := HT2.own.cell k hk2
              have HK2 : Hid (k < ds2.length) := hk2
              clear x0 x1 x2 HT2 HX
              go_wp2_with fail
              go_roundg (l.length - (k + 1))
              case rel =>
                have hy := HTX.out.td.fd _ (List.getElem_mem HK2.out)
                have hfl : floatOfInt .f64 ((k : Int) + 1) = Fp.rung (k + 1) := by
                  rw [rung_of_int ((k : Int) + 1) (by omega) (by omega)]; congr 1
                have := HTX.out.field k 3 ⟨ds2[k].kind, ds2[k].name, ds2[k].n, floatOfInt .f64 ((k : Int) + 1), 4607182418800017408⟩ (.complex .f64 (floatOfInt .f64 ((k : Int) + 1)) 4607182418800017408) HK2.out (by omega) (by rw [List.getElem?_eq_getElem HK2.out]; rfl) ⟨⟨hy.1.nm, hy.1.lo, hy.1.hi⟩, hy.2⟩ ⟨by rw [hfl]; exact ok_rung (k + 1) (by omega), eql_oneU⟩
                exact ⟨k + 1, _, by go_num, by omega, Nat.le_refl _, this⟩
              case measure => omega
            · have g6 : ((c : Int) == 6) = false := ne_int (by omega)
              have g7 : ((c : Int) == 7) = false := ne_int (by omega)
              have g8 : ((c : Int) == 8) = false := ne_int (by omega)
              have HX : Hid (∃ ds', TN w wr w.heap.size (w.heap.size + 1) b0 d.length ds' (.slice (some ⟨g, 0, none⟩) d.length cp) (.slice a2 n2 q2)) := ⟨ds, HT.out⟩
              clear h6 h7 h8
              go_wp2_with fail
              refine (PK.out _).mono ?_
              rintro e w' ⟨rfl, rfl⟩
              go_upto_region 13 with fail
              clear x0 x1 x2 x3 xf xl p0 pl
              obtain ⟨ds2, HT2⟩ := HX.out
              have hk2 : k < ds2.length := by have := HT2.td.len; omega
              have HTX : Hid (TN w w' w.heap.size (w.heap.size + 1) b0 d.length ds2 (.slice (some ⟨g, 0, none⟩) d.length cp) (.slice a2 n2 q2)) := HT2
              have p0 := HT2.box.cell 0 rfl
              have pl := HT2.box.lt
              obtain ⟨x0, x1, x2, x3, xf, xl⟩ := HT2.own.cell k hk2
              have HK2 : Hid (k < ds2.length) := hk2
              clear x0 x1 x2 HT2 HX
              go_wp2_with fail
              go_roundg (l.length - (k + 1))
              case rel =>
                have hy := HTX.out.td.fd _ (List.getElem_mem HK2.out)
                have hfl : floatOfInt .f64 ((k : Int) + 1) = Fp.rung (k + 1) := by
                  rw [rung_of_int ((k : Int) + 1) (by omega) (by omega)]; congr 1
                have := HTX.out.field k 3 ⟨ds2[k].kind, ds2[k].name, ds2[k].n, floatOfInt .f64 ((k : Int) + 1), 4607182418800017408⟩ (.complex .f64 (floatOfInt .f64 ((k : Int) + 1)) 4607182418800017408) HK2.out (by omega) (by rw [List.getElem?_eq_getElem HK2.out]; rfl) ⟨⟨hy.1.nm, hy.1.lo, hy.1.hi⟩, hy.2⟩ ⟨by rw [hfl]; exact ok_rung (k + 1) (by omega), eql_oneU⟩
                exact ⟨k + 1, _, by go_num, by omega, Nat.le_refl _, this⟩
              case measure => omega
      · have hkdi : (d.length : Int) ≤ (k : Int) := by omega
        go_wp2_with fail
        obtain ⟨ds', a1, q1, he, hH⟩ := HEND.out wr (Kept.refl _)
        exact bodyPost_ret (results_cell_mid (P := Try.prog) Try.results8 _ _ (w.heap.size + 1) 0 [.slice (some ⟨g, 0, none⟩) d.length cp, .slice a2 n2 q2] _ rfl (World.rangeAt_setCells_same _ _ _ _ (HRB.out.there 0 2 (by decide))) Try.underlying27 rfl esizePr) rfl ⟨ds', a1, q1, he, hH⟩
    · have hki : ¬ (k : Int) < (l.length : Int) := by omega
      go_wp2_with fail
      obtain ⟨ds', a1, q1, he, hH⟩ := HEND.out wr (Kept.refl _)
      exact bodyPost_ret (results_cell_mid (P := Try.prog) Try.results8 _ _ (w.heap.size + 1) 0 [.slice (some ⟨g, 0, none⟩) d.length cp, .slice a2 n2 q2] _ rfl (World.rangeAt_setCells_same _ _ _ _ (HRB.out.there 0 2 (by decide))) Try.underlying27 rfl esizePr) rfl ⟨ds', a1, q1, he, hH⟩
end Go.Proofs.Ytbfikeegacapjaa
