/- TreeKnown. -/
import Derived.Test.YtoaaikbplnpmmaaTv
import Derived.Deep.RegionHeld3
import Derived.Deep.DeepCutAuto
namespace Go.Proofs.Ytoaaikbplnpmmaa
open Go.RowKit
attribute [local go_sem] run_store_complex
attribute [local go_sem ↓] cut_b cut_t

set_option maxRecDepth 100000 in
set_option maxHeartbeats 8000000 in
theorem treeKnown_any (w : World) : Calls Try.prog 3 #[] w fun r w' => r = .returned (.bool true) ∧ Kept w w' := by
  go_enter Try.func3, Try.ntmps3
  go_wp2_with fail
  refine (name_any _ _).mono ?_
  rintro r w1 ⟨rfl, k1⟩
  have K1 : Hid (Kept w w1) := k1
  clear k1
  go_upto_region 2 with fail
  obtain ⟨W1, hW1⟩ : ∃ W1, w1.alloc (.cells #[.int .i64 6, .string ⟨#[]⟩, .string ⟨#[]⟩, .int .i64 0, .int .i64 2, .int .i64 0, .string ⟨#[113]⟩, .slice none 0 0, .slice none 0 0, .slice none 0 0, .complex .f64 0 0] 29) = W1 := ⟨_, rfl⟩
  rw [hW1]
  have hc : ∀ k v, (#[Value.int .i64 6, .string ⟨#[]⟩, .string ⟨#[]⟩, .int .i64 0, .int .i64 2, .int .i64 0, .string ⟨#[113]⟩, .slice none 0 0, .slice none 0 0, .slice none 0 0, .complex .f64 0 0] : Array Value)[k]? = some v → W1.cell? ⟨w1.heap.size, k, none⟩ = some v := fun k v h => by rw [← hW1, cell_of_row _ _ _ _ _ (0, 0) (heap_alloc_new _ _)]; simpa using h
  have HW1 : Hid (Kept w1 W1) := by rw [← hW1]; exact (Kept.refl _).al _
  have SS : Hid (∀ w', Kept W1 w' → w'.cell? ⟨w1.heap.size, 0, none⟩ = some (.int .i64 6) ∧ w'.cell? ⟨w1.heap.size, 1, none⟩ = some (.string ⟨#[]⟩) ∧ w'.cell? ⟨w1.heap.size, 2, none⟩ = some (.string ⟨#[]⟩) ∧ w'.cell? ⟨w1.heap.size, 3, none⟩ = some (.int .i64 0) ∧ w'.cell? ⟨w1.heap.size, 4, none⟩ = some (.int .i64 2) ∧ w'.cell? ⟨w1.heap.size, 5, none⟩ = some (.int .i64 0) ∧ w'.cell? ⟨w1.heap.size, 6, none⟩ = some (.string ⟨#[113]⟩) ∧ w'.cell? ⟨w1.heap.size, 7, none⟩ = some (.slice none 0 0) ∧ w'.cell? ⟨w1.heap.size, 8, none⟩ = some (.slice none 0 0) ∧ w'.cell? ⟨w1.heap.size, 9, none⟩ = some (.slice none 0 0) ∧ w'.cell? ⟨w1.heap.size, 10, none⟩ = some (.complex .f64 0 0)) := fun w' KK => ⟨KK.cellS (hc 0 _ rfl), KK.cellS (hc 1 _ rfl), KK.cellS (hc 2 _ rfl), KK.cellS (hc 3 _ rfl), KK.cellS (hc 4 _ rfl), KK.cellS (hc 5 _ rfl), KK.cellS (hc 6 _ rfl), KK.cellS (hc 7 _ rfl), KK.cellS (hc 8 _ rfl), KK.cellS (hc 9 _ rfl), KK.cellS (hc 10 _ rfl)⟩
  have PN : Hid (∀ s W, Kept W1 W → Calls Try.prog 7 #[.string s] W fun r w' => r = .returned (.agg #[.int .i64 2, .int .i64 0, .string s, .slice none 0 0]) ∧ Hid (Kept W1 w' ∧ Kept W w')) := fun s W hW => by
    refine (name_any s W).mono ?_
    rintro r w' ⟨rfl, h⟩
    exact ⟨rfl, hW.then h, h⟩
  clear hc hW1
  go_cut [2] (fun p wc => ∃ bp b5 : Nat, p = .pointer (some ⟨bp, 0, none⟩) ∧ Hid (MadeK W1 wc bp b5))
  case first =>
    refine wp_region_any (by kernel_rfl) ?_
    refine wpAny_inv (JK W1 w1.heap.size) ?h0 ?hd ?hs _ _ _ _ ?init
    case init => exact ⟨⟨by rfl, by decide⟩, (Kept.refl W1).dr, fun _ => undef, rfl, .inl ⟨by rfl, fun k h1 h2 => by
      have : (Array.replicate 15 false).getD k false = false := by simp [Array.getD]
      rw [show (Array.replicate (Array.size _) false) = Array.replicate 15 false from rfl, this] at h2
      cases h2⟩⟩
    case h0 => exact fun L a v h => h.1.none (by rfl)
    case hd =>
      intro n L a v hJ hr
      obtain ⟨hL, hk, x0, x1, x2, x3, x4, x5, x6, x7, x8, x9, x10, x11, x12, x13, rfl, ⟨h14, -⟩ | HM⟩ := hJ.parts
      · exfalso
        have h15 := all_listed hr (by rw [hL.size]; rfl) (by kernel_rfl) 14 (by decide)
        rw [h14] at h15
        cases h15
      · obtain ⟨-, bp, b5, rfl, HMK⟩ := HM.out
        dsimp only [frK, uK]
        have HM2 : Hid (MadeK W1 v bp b5) := HMK
        clear HM HMK hr hJ
        go_wp2_with fail
        go_meet
        case rel => exact ⟨bp, b5, rfl, HM2⟩
    case hs =>
      intro n L a v hJ i o ho hl hp K hK
      obtain ⟨hL, hk, x0, x1, x2, x3, x4, x5, x6, x7, x8, x9, x10, x11, x12, x13, rfl, ⟨h14, HF⟩ | HM⟩ := hJ.parts
      · have hi : i < 15 := (Array.getElem?_eq_some_iff.1 ho).1
        have hor : i = 0 ∨ i = 1 ∨ i = 2 ∨ i = 3 ∨ i = 4 ∨ i = 5 ∨ i = 6 ∨ i = 7 ∨ i = 8 ∨ i = 9 ∨ i = 10 ∨ i = 11 ∨ i = 12 ∨ i = 13 ∨ i = 14 := by omega
        clear hi hJ
        rcases hor with rfl | rfl | rfl | rfl | rfl | rfl | rfl | rfl | rfl | rfl | rfl | rfl | rfl | rfl | rfl
        · -- 0
          obtain rfl := Option.some.inj ho
          clear hp
          dsimp only [frK, uK]
          go_simp
          refine (name_any _ _).mono ?_
          rintro r v2 ⟨rfl, k2⟩
          go_wp2_with fail
          exact hK.out _ _ (JK.next hL h14 HF.out (by omega) hl hk k2 rfl)
        · -- 1
          obtain rfl := Option.some.inj ho
          clear hp
          dsimp only [frK, uK]
          obtain ⟨s0, s1, s2, s3, s4, s5, s6, s7, s8, s9, s10⟩ := SS.out v hk
          go_simp
          exact hK.out _ _ (JK.next hL h14 HF.out (by omega) hl hk (Kept.refl _) rfl)
        · -- 2
          obtain rfl := Option.some.inj ho
          have f1 := HF.out 1 (by omega) (hp ⟨1, .data⟩ (by simp) rfl)
          have e1 : x1 = _ := f1
          subst e1
          clear hp
          dsimp only [frK, uK]
          go_simp
          exact hK.out _ _ (JK.next hL h14 HF.out (by omega) hl hk ((Kept.refl _).al _) ⟨_, rfl, heap_alloc_new _ _⟩)
        · -- 3
          obtain rfl := Option.some.inj ho
          clear hp
          dsimp only [frK, uK]
          go_simp
          exact hK.out _ _ (JK.next hL h14 HF.out (by omega) hl hk (Kept.refl _) rfl)
        · -- 4
          obtain rfl := Option.some.inj ho
          have f3 := HF.out 3 (by omega) (hp ⟨3, .data⟩ (by simp) rfl)
          have e3 : x3 = _ := f3
          subst e3
          clear hp
          dsimp only [frK, uK]
          go_simp
          exact hK.out _ _ (JK.next hL h14 HF.out (by omega) hl hk ((Kept.refl _).al _) ⟨_, rfl, heap_alloc_new _ _⟩)
        · -- 5
          obtain rfl := Option.some.inj ho
          have f0 := HF.out 0 (by omega) (hp ⟨0, .data⟩ (by simp) rfl)
          have e0 : x0 = _ := f0
          subst e0
          have f2 := HF.out 2 (by omega) (hp ⟨2, .data⟩ (by simp) rfl)
          obtain ⟨bb, e2, r2_0⟩ : ∃ _ , _ := f2
          have e2' : x2 = _ := e2
          subst e2'
          have f4 := HF.out 4 (by omega) (hp ⟨4, .data⟩ (by simp) rfl)
          obtain ⟨be, e4, r4_0⟩ : ∃ _ , _ := f4
          have e4' : x4 = _ := e4
          subst e4'
          clear hp
          dsimp only [frK, uK]
          go_simp
          exact hK.out _ _ (JK.next hL h14 HF.out (by omega) hl hk (Kept.refl _) ⟨bb, be, rfl, r2_0, r4_0⟩)
        · -- 6
          obtain rfl := Option.some.inj ho
          clear hp
          dsimp only [frK, uK]
          go_simp
          exact hK.out _ _ (JK.next hL h14 HF.out (by omega) hl hk (Kept.refl _) rfl)
        · -- 7
          obtain rfl := Option.some.inj ho
          have f5 := HF.out 5 (by omega) (hp ⟨5, .data⟩ (by simp) rfl)
          obtain ⟨bb, be, e5, r5_0, r5_1⟩ : ∃ _ , _ := f5
          have e5' : x5 = _ := e5
          subst e5'
          have f6 := HF.out 6 (by omega) (hp ⟨6, .data⟩ (by simp) rfl)
          have e6 : x6 = _ := f6
          subst e6
          clear hp
          dsimp only [frK, uK]
          go_simp
          have ua : ∀ (ob : Obj) b o, v.heap[b]? = some o → (v.alloc ob).heap[b]? = some o := fun ob b o hb => (((Kept.refl v).al ob).block b (lt_of_heap hb)).trans hb
          exact hK.out _ _ (JK.next hL h14 HF.out (by omega) hl hk ((Kept.refl _).al _) ⟨_, bb, be, rfl, heap_alloc_new _ _, ua _ _ _ r5_0, ua _ _ _ r5_1⟩)
        · -- 8
          obtain rfl := Option.some.inj ho
          clear hp
          dsimp only [frK, uK]
          go_simp
          refine (name_any _ _).mono ?_
          rintro r v2 ⟨rfl, k2⟩
          go_wp2_with fail
          exact hK.out _ _ (JK.next hL h14 HF.out (by omega) hl hk k2 rfl)
        · -- 9
          obtain rfl := Option.some.inj ho
          have f8 := HF.out 8 (by omega) (hp ⟨8, .data⟩ (by simp) rfl)
          have e8 : x8 = _ := f8
          subst e8
          clear hp
          dsimp only [frK, uK]
          go_simp
          exact hK.out _ _ (JK.next hL h14 HF.out (by omega) hl hk (Kept.refl _) rfl)
        · -- 10
          obtain rfl := Option.some.inj ho
          have f9 := HF.out 9 (by omega) (hp ⟨9, .data⟩ (by simp) rfl)
          have e9 : x9 = _ := f9
          subst e9
          clear hp
          dsimp only [frK, uK]
          go_simp
          exact hK.out _ _ (JK.next hL h14 HF.out (by omega) hl hk ((Kept.refl _).al _) ⟨_, rfl, heap_alloc_new _ _⟩)
        · -- 11
          obtain rfl := Option.some.inj ho
          have f7 := HF.out 7 (by omega) (hp ⟨7, .data⟩ (by simp) rfl)
          obtain ⟨b0, bb, be, e7, r7_0, r7_1, r7_2⟩ : ∃ _ , _ := f7
          have e7' : x7 = _ := e7
          subst e7'
          have f10 := HF.out 10 (by omega) (hp ⟨10, .data⟩ (by simp) rfl)
          obtain ⟨b1, e10, r10_0⟩ : ∃ _ , _ := f10
          have e10' : x10 = _ := e10
          subst e10'
          clear hp
          dsimp only [frK, uK]
          go_simp
          have ua : ∀ (ob : Obj) b o, v.heap[b]? = some o → (v.alloc ob).heap[b]? = some o := fun ob b o hb => (((Kept.refl v).al ob).block b (lt_of_heap hb)).trans hb
          exact hK.out _ _ (JK.next hL h14 HF.out (by omega) hl hk ((Kept.refl _).al _) ⟨_, b0, b1, bb, be, rfl, heap_alloc_new _ _, ua _ _ _ r7_0, ua _ _ _ r10_0, ua _ _ _ r7_1, ua _ _ _ r7_2⟩)
        · -- 12
          obtain rfl := Option.some.inj ho
          have f11 := HF.out 11 (by omega) (hp ⟨11, .data⟩ (by simp) rfl)
          obtain ⟨b5, b0, b1, bb, be, e11, r11_0, r11_1, r11_2, r11_3, r11_4⟩ : ∃ _ , _ := f11
          have e11' : x11 = _ := e11
          subst e11'
          clear hp
          dsimp only [frK, uK]
          go_simp
          exact hK.out _ _ (JK.next hL h14 HF.out (by omega) hl hk (Kept.refl _) ⟨b5, b0, b1, bb, be, rfl, r11_0, r11_1, r11_2, r11_3, r11_4⟩)
        · -- 13
          obtain rfl := Option.some.inj ho
          clear hp
          dsimp only [frK, uK]
          go_simp
          exact hK.out _ _ (JK.next hL h14 HF.out (by omega) hl hk ((Kept.refl _).al _) ⟨_, rfl, hk.size, heap_alloc_new _ _⟩)
        · -- 14
          obtain rfl := Option.some.inj ho
          have hall : ∀ k, k < 14 → L.getD k false = true := fun k hk' => by
            match k, hk' with
            | 0, _ => exact hp ⟨0, .phase⟩ (by simp) rfl
            | 1, _ => exact hp ⟨1, .phase⟩ (by simp) rfl
            | 2, _ => exact hp ⟨2, .phase⟩ (by simp) rfl
            | 3, _ => exact hp ⟨3, .phase⟩ (by simp) rfl
            | 4, _ => exact hp ⟨4, .phase⟩ (by simp) rfl
            | 5, _ => exact hp ⟨5, .phase⟩ (by simp) rfl
            | 6, _ => exact hp ⟨6, .phase⟩ (by simp) rfl
            | 7, _ => exact hp ⟨7, .phase⟩ (by simp) rfl
            | 8, _ => exact hp ⟨8, .phase⟩ (by simp) rfl
            | 9, _ => exact hp ⟨9, .phase⟩ (by simp) rfl
            | 10, _ => exact hp ⟨10, .phase⟩ (by simp) rfl
            | 11, _ => exact hp ⟨11, .phase⟩ (by simp) rfl
            | 12, _ => exact hp ⟨12, .phase⟩ (by simp) rfl
            | 13, _ => exact hp ⟨13, .phase⟩ (by simp) rfl
          obtain ⟨b5, b0, b1, bb, be, e12, r0, r1, r2, r3, r4⟩ : ∃ _ , _ := HF.out 12 (by omega) (hall 12 (by omega))
          have e12' : x12 = _ := e12
          subst e12'
          obtain ⟨bp, e13, hbp, hpp⟩ : ∃ _ , _ := HF.out 13 (by omega) (hall 13 (by omega))
          have e13' : x13 = _ := e13
          subst e13'
          clear hp
          have c0 : v.cell? ⟨bp, 0, none⟩ = some (.slice none 0 0) := by rw [cell_of_row v bp _ _ _ (0, 0) hpp]; rfl
          have c1 : v.cell? ⟨bp, 1, none⟩ = some (.slice none 0 0) := by rw [cell_of_row v bp _ _ _ (0, 0) hpp]; rfl
          have hfz : ∀ j, v.frozen? ⟨bp, j, none⟩ = false := fun j => frozen_of_row v bp j _ _ hpp
          have HLst : Hid _ := JK.last (B := w1.heap.size) (u := uK x0 x1 x2 x3 x4 x5 x6 x7 x8 x9 x10 x11 (.agg #[.slice none 0 0, .slice (some ⟨b5, 0, none⟩) 2 2]) (.pointer (some ⟨bp, 0, none⟩))) hL hl hall hk rfl hbp hpp r0 r1 r2 r3 r4
          dsimp only [frK, uK]
          clear hall r0 r1 r2 r3 r4 hpp e12 e13
          go_simp
          exact hK.out _ _ HLst.out
      · exfalso
        have hi : i < 15 := (Array.getElem?_eq_some_iff.1 ho).1
        have h1 := HM.out.1 i hi
        rw [getD_false hl] at h1
        cases h1
  case rest =>
    obtain ⟨bp, b5, rfl, HM⟩ := hcut
    clear SS PN
    have c0 := HM.out.c0
    have c1 := HM.out.c1
    have KW : Hid (Kept w wc) := K1.out.then (HW1.out.then HM.out.kept)
    have HU : Hid (∀ W, Kept wc W → DsIn W 0 W.heap.size [] (.slice none 0 0) ∧ TsIn W 0 W.heap.size tK (.slice (some ⟨b5, 0, none⟩) 2 2)) := fun W hW => ⟨DsD.nil _ _, HM.out.ts.up (Nat.le_refl _) hW⟩
    have PL : Hid (Calls Try.prog 8 #[.agg #[.slice none 0 0, .slice (some ⟨b5, 0, none⟩) 2 2]] wc fun r w' => ∃ bL oL qL, r = .returned (.slice (some ⟨bL, oL, none⟩) 5 qL) ∧ Hid (StsIn w' wc.heap.size w'.heap.size [sIf, sPrint, sLock, sRecv, sSend] (.slice (some ⟨bL, oL, none⟩) 5 qL) ∧ Kept wc w')) := by
      have hu := HU.out wc (Kept.refl _)
      refine (list_any [] tK wc _ _ hu.1 hu.2 (by rw [flat_tK]; decide) wts_tK).mono ?_
      rintro r w' ⟨v', rfl, h1, h2⟩
      rw [flat_tK] at h1
      obtain ⟨a, q, rfl, -⟩ := h1.open
      obtain ⟨b, o, _, _, _, _, _, _, _, _, _, rfl, -⟩ := h1.itemD 0 (by simp)
      exact ⟨b, o, q, rfl, h1, h2⟩
    have PT : Hid (∀ W, Kept wc W → Calls Try.prog 9 #[.agg #[.slice none 0 0, .slice (some ⟨b5, 0, none⟩) 2 2]] W fun r w' => ∃ bT oT qT, r = .returned (.slice (some ⟨bT, oT, none⟩) 5 qT) ∧ Hid (Kept W w') ∧ w'.cell? ⟨bT, oT + 3, none⟩ = some (.int .i64 0) ∧ w'.cell? ⟨bT, oT + 4, none⟩ = some (.int .i64 1)) := fun W hW => by
      have hu := HU.out W hW
      refine (threads_any [] tK W _ _ hu.1 hu.2 (by rw [flat_tK]; decide) wts_tK).mono ?_
      rintro r w' ⟨v', rfl, h1, h2⟩
      rw [thrs_tK] at h1
      obtain ⟨a, q, rfl, -⟩ := h1.open
      obtain ⟨b, o, rfl, -, c3⟩ := h1.itemD 3 (by simp)
      obtain ⟨b', o', e4, -, c4⟩ := h1.itemD 4 (by simp)
      cases e4
      exact ⟨b, o, q, rfl, h2, c3, c4⟩
    have PC : Hid (∀ W, Kept wc W → Calls Try.prog 11 #[.agg #[.slice none 0 0, .slice (some ⟨b5, 0, none⟩) 2 2]] W fun r w' => ∃ a5 q5 a6 q6 M, r = .returned (.agg #[.slice a5 0 q5, .slice a6 2 q6]) ∧ Hid (W.heap.size ≤ M ∧ M ≤ w'.heap.size ∧ TsIn w' W.heap.size M tK (.slice a6 2 q6) ∧ DsIn w' M w'.heap.size [] (.slice a5 0 q5) ∧ Kept W w')) := fun W hW => by
      have hu := HU.out W hW
      refine (copy_any [] tK W _ _ hu.1 hu.2 (by decide) (by decide) wts_tK).mono ?_
      rintro r w' ⟨dv', tv', M, rfl, m1, m2, h1, h2, h3⟩
      obtain ⟨a, cap, rfl, -⟩ := h2.open
      obtain ⟨a', cap', rfl, -⟩ := h1.open
      exact ⟨_, _, _, _, M, rfl, m1, m2, h1, h2, h3⟩
    obtain ⟨_, _, b7p, o7p, q7p, b9p, o9p, q9p, e5, -, -, -, -, -, -, p6, p8, -, p9⟩ := path_tK HM.out.ts
    cases e5
    clear HM
    go_wp2_with fail
    refine Calls.mono PL.out ?_
    rintro r w2 ⟨bL, oL, qL, rfl, HL⟩
    have c02 := HL.out.2.cellS c0
    have c12 := HL.out.2.cellS c1
    go_wp2_with fail
    refine (PT.out _ HL.out.2).mono ?_
    rintro r w3 ⟨bT, oT, qT, rfl, HT, t3, t4⟩
    go_wp2_with fail
    refine (known_any _).mono ?_
    rintro r w4 ⟨rfl, k4⟩
    have HK4 : Hid (Kept wc w4) := HL.out.2.then (HT.out.then k4)
    have HL4 : Hid (StsIn w4 0 w4.heap.size [sIf, sPrint, sLock, sRecv, sSend] (.slice (some ⟨bL, oL, none⟩) 5 qL)) := HL.out.1.up (Nat.le_refl _) (HT.out.then k4)
    have c04 := HK4.out.cellS c0
    have c14 := HK4.out.cellS c1
    have t34 := k4.cellS t3
    have t44 := k4.cellS t4
    clear c02 c12 t3 t4 PL PT HL HT k4
    go_wp2_with fail
    refine (PC.out _ HK4.out).mono ?_
    rintro r w5 ⟨a5, q5, a6, q6, M, rfl, HC⟩
    obtain ⟨b6, o6, b7, o7, q7, b9, o9, q9, rfl, -, -, d7, -, fz7, -, s6, s8, s10, -⟩ := path_tK HC.out.2.2.1
    obtain ⟨W5, hW5⟩ : ∃ W5, w5.alloc (.cells #[.slice a5 0 q5, .slice (some ⟨b6, o6, none⟩) 2 q6] 33) = W5 := ⟨_, rfl⟩
    have HW5 : Hid (Kept w5 W5 ∧ W5.heap.size = w5.heap.size + 1) := by rw [← hW5]; exact ⟨(Kept.refl _).al _, by simp⟩
    have g0 : W5.cell? ⟨w5.heap.size, 0, none⟩ = some (.slice a5 0 q5) := by rw [← hW5]; simp
    have g1 : W5.cell? ⟨w5.heap.size, 1, none⟩ = some (.slice (some ⟨b6, o6, none⟩) 2 q6) := by rw [← hW5]; simp
    have s65 := HW5.out.1.cellS s6
    have s105 := HW5.out.1.cellS s10
    have fz75 : ∀ j, W5.frozen? ⟨b7, j, none⟩ = false := fun j => (HW5.out.1.frozen (p := ⟨b7, j, none⟩) (show b7 < w5.heap.size from block_lt_of_cell s10)).trans (fz7 j)
    have HK5 : Hid (Kept w4 W5) := HC.out.2.2.2.2.then HW5.out.1
    clear s6 s8 s10 fz7
    obtain ⟨X5, hX5⟩ : ∃ X5, W5.setCell ⟨b7, o7 + 10, none⟩ (.complex .f64 4619567317775286272 4619567317775286272) = X5 := ⟨_, rfl⟩
    have HX5 : Hid (Kept w4 X5) := by rw [← hX5]; exact HK5.out.setCell (p := ⟨b7, o7 + 10, none⟩) d7.1 _
    have HKc5 : Hid (Kept wc X5) := HK4.out.then HX5.out
    have hlt7 : b7 < w5.heap.size := Nat.lt_of_lt_of_le d7.2 HC.out.2.1
    have g05 : X5.cell? ⟨w5.heap.size, 0, none⟩ = some (.slice a5 0 q5) := by rw [← hX5, World.cell?_setCell_other _ _ _ _ (by intro e; cases e)]; exact g0
    have g15 : X5.cell? ⟨w5.heap.size, 1, none⟩ = some (.slice (some ⟨b6, o6, none⟩) 2 q6) := by rw [← hX5, World.cell?_setCell_other _ _ _ _ (by intro e; cases e)]; exact g1
    have HQ5 : Hid (∃ t', TsIn X5 0 X5.heap.size t' (.slice (some ⟨b6, o6, none⟩) 2 q6) ∧ sameTs tK t' = true ∧ DsIn X5 0 X5.heap.size [] (.slice a5 0 q5)) := by
      have h1 : TsIn W5 w4.heap.size M tK (.slice (some ⟨b6, o6, none⟩) 2 q6) := HC.out.2.2.1.stays (HW5.out.1.stays HC.out.2.1)
      obtain ⟨t', -, h2⟩ := h1.turn s105 (.com 0 0 4619567317775286272 4619567317775286272)
      have h3 := h1.like (ButPlaces.of s105 _) h2
      have hz : w5.heap.size ≤ X5.heap.size := by rw [← hX5]; exact Nat.le_trans HW5.out.1.size ((Below.refl 0 W5).setCell (p := ⟨b7, o7 + 10, none⟩) (Nat.zero_le _) _).size
      rw [hX5] at h2
      refine ⟨t', h2.mono (Rng.up (Nat.zero_le _) (Nat.le_trans HC.out.2.1 hz)), h3, ?_⟩
      obtain ⟨a, cap, e, e1, e2⟩ := HC.out.2.2.2.1.out
      exact ⟨a, cap, e, e1, fun i hi => by simp at hi⟩
    have c05 := HKc5.out.cellS c0
    have c15 := HKc5.out.cellS c1
    go_wp2_with fail
    clear hX5 hW5 g0 g1 s65 s105 fz75 c04 c14 HW5 HC HK5
    refine (PC.out _ HKc5.out).mono ?_
    rintro r w6 ⟨a15, q15, a16, q16, M', rfl, HC6⟩
    obtain ⟨b16, o16, b17, o17, q17, b19, o19, q19, rfl, -, -, -, d19, -, fz9, s6, s8, -, s9⟩ := path_tK HC6.out.2.2.1
    obtain ⟨W6, hW6⟩ : ∃ W6, w6.alloc (.cells #[.slice a15 0 q15, .slice (some ⟨b16, o16, none⟩) 2 q16] 33) = W6 := ⟨_, rfl⟩
    have HW6 : Hid (Kept w6 W6 ∧ W6.heap.size = w6.heap.size + 1) := by rw [← hW6]; exact ⟨(Kept.refl _).al _, by simp⟩
    have i0 : W6.cell? ⟨w6.heap.size, 0, none⟩ = some (.slice a15 0 q15) := by rw [← hW6]; simp
    have i1 : W6.cell? ⟨w6.heap.size, 1, none⟩ = some (.slice (some ⟨b16, o16, none⟩) 2 q16) := by rw [← hW6]; simp
    have s66 := HW6.out.1.cellS s6
    have s86 := HW6.out.1.cellS s8
    have s96 := HW6.out.1.cellS s9
    have fz96 : ∀ j, W6.frozen? ⟨b19, j, none⟩ = false := fun j => (HW6.out.1.frozen (p := ⟨b19, j, none⟩) (show b19 < w6.heap.size from block_lt_of_cell s9)).trans (fz9 j)
    have HK6 : Hid (Kept X5 W6) := HC6.out.2.2.2.2.then HW6.out.1
    clear s6 s8 s9 fz9
    obtain ⟨X6, hX6⟩ : ∃ X6, W6.setCell ⟨b19, o19 + 6, none⟩ (.string ⟨#[122]⟩) = X6 := ⟨_, rfl⟩
    have HX6 : Hid (Kept X5 X6) := by rw [← hX6]; exact HK6.out.setCell (p := ⟨b19, o19 + 6, none⟩) d19.1 _
    have hlt9 : b19 < w6.heap.size := Nat.lt_of_lt_of_le d19.2 HC6.out.2.1
    have i06 : X6.cell? ⟨w6.heap.size, 0, none⟩ = some (.slice a15 0 q15) := by rw [← hX6, World.cell?_setCell_other _ _ _ _ (by intro e; cases e)]; exact i0
    have i16 : X6.cell? ⟨w6.heap.size, 1, none⟩ = some (.slice (some ⟨b16, o16, none⟩) 2 q16) := by rw [← hX6, World.cell?_setCell_other _ _ _ _ (by intro e; cases e)]; exact i1
    have HR6 : Hid (∃ t', TsIn X6 0 X6.heap.size t' (.slice (some ⟨b16, o16, none⟩) 2 q16) ∧ sameTs tK t' = false ∧ DsIn X6 0 X6.heap.size [] (.slice a15 0 q15)) := by
      have h1 : TsIn W6 X5.heap.size M' tK (.slice (some ⟨b16, o16, none⟩) 2 q16) := HC6.out.2.2.1.stays (HW6.out.1.stays HC6.out.2.1)
      obtain ⟨t', -, h2⟩ := h1.turn s96 (.str ⟨#[113]⟩ ⟨#[122]⟩)
      have z9 : X6.cell? ⟨b19, o19 + 6, none⟩ = some (.string ⟨#[122]⟩) := by rw [← hX6]; exact World.cell?_setCell_same _ _ _ s96
      have z6 : X6.cell? ⟨b16, o16, none⟩ = some (.slice (some ⟨b17, o17, none⟩) 2 q17) := by rw [← hX6]; exact (Alike.str ⟨#[113]⟩ ⟨#[122]⟩).keep s96 s66 (by simp) (by simp)
      have z8 : X6.cell? ⟨b17, o17 + 8, none⟩ = some (.slice (some ⟨b19, o19, none⟩) 1 q19) := by rw [← hX6]; exact (Alike.str ⟨#[113]⟩ ⟨#[122]⟩).keep s96 s86 (by simp) (by simp)
      have hz : w6.heap.size ≤ X6.heap.size := by rw [← hX6]; exact Nat.le_trans HW6.out.1.size ((Below.refl 0 W6).setCell (p := ⟨b19, o19 + 6, none⟩) (Nat.zero_le _) _).size
      rw [hX6] at h2
      refine ⟨t', h2.mono (Rng.up (Nat.zero_le _) (Nat.le_trans HC6.out.2.1 hz)), other_tK h2 z6 z8 z9, ?_⟩
      obtain ⟨a, cap, e, e1, e2⟩ := HC6.out.2.2.2.1.out
      exact ⟨a, cap, e, e1, fun i hi => by simp at hi⟩
    have HK46 : Hid (Kept w4 X6) := HX5.out.then HX6.out
    have HKc6 : Hid (Kept wc X6) := HKc5.out.then HX6.out
    have HL6 : Hid (∀ W, Kept X6 W → StsIn W 0 W.heap.size [sIf, sPrint, sLock, sRecv, sSend] (.slice (some ⟨bL, oL, none⟩) 5 qL)) := fun W hW => HL4.out.up (Nat.le_refl _) (HK46.out.then hW)
    have c06 := HKc6.out.cellS c0
    have c16 := HKc6.out.cellS c1
    have g06 := HX6.out.cellS g05
    have g16 := HX6.out.cellS g15
    have t36 := HK46.out.cellS t34
    have t46 := HK46.out.cellS t44
    have p66 := HKc6.out.cellS p6
    have p86 := HKc6.out.cellS p8
    have p96 := HKc6.out.cellS p9
    have PS1 : Hid (∀ W, Kept X6 W → Calls Try.prog 13 #[.agg #[.slice none 0 0, .slice (some ⟨b5, 0, none⟩) 2 2], .agg #[.slice a5 0 q5, .slice (some ⟨b6, o6, none⟩) 2 q6]] W fun r w' => r = .returned (.bool true) ∧ Hid (Kept W w')) := fun W hW => by
      obtain ⟨t', h1, h2, h3⟩ := HQ5.out
      have hu := HU.out W (HKc6.out.then hW)
      refine (same_any [] [] tK t' W _ _ _ _ hu.1 hu.2 (h3.up (Nat.le_refl _) (HX6.out.then hW)) (h1.up (Nat.le_refl _) (HX6.out.then hW))).mono ?_
      rintro r w' ⟨rfl, h⟩
      rw [h2, Dc.sames]
      exact ⟨rfl, h⟩
    have PS2 : Hid (∀ W, Kept X6 W → Calls Try.prog 13 #[.agg #[.slice none 0 0, .slice (some ⟨b5, 0, none⟩) 2 2], .agg #[.slice a15 0 q15, .slice (some ⟨b16, o16, none⟩) 2 q16]] W fun r w' => r = .returned (.bool false) ∧ Hid (Kept W w')) := fun W hW => by
      obtain ⟨t', h1, h2, h3⟩ := HR6.out
      have hu := HU.out W (HKc6.out.then hW)
      refine (same_any [] [] tK t' W _ _ _ _ hu.1 hu.2 (h3.up (Nat.le_refl _) hW) (h1.up (Nat.le_refl _) hW)).mono ?_
      rintro r w' ⟨rfl, h⟩
      rw [h2, Dc.sames]
      exact ⟨rfl, h⟩
    have PLe : Hid (∀ W, Calls Try.prog 8 #[.agg #[.slice none 0 0, .slice none 0 0]] W fun r w' => ∃ a q, r = .returned (.slice a 0 q) ∧ Hid (Kept W w')) := fun W => by
      refine (list_any [] [] W _ _ (DsD.nil _ _) (TsD.nil _ _) (by decide) (by simp)).mono ?_
      rintro r w' ⟨v', rfl, h1, h2⟩
      obtain ⟨a, q, rfl, -⟩ := h1.open
      exact ⟨a, q, rfl, h2⟩
    clear hlt7 hlt9 HQ5 HR6 HU HL4
    have HKX : Hid (Kept X6 X6) := Kept.refl _
    clear c05 c15 g05 g15 t34 t44 c0 c1 p6 p8 p9 PC
    obtain ⟨_, _, A1, N1, Q1, A2, N2, Q2, A3, N3, Q3, e, -, -, z0, z1, z2, z3, z4, z5, z6, z7, z8, z9, z10, k1, k2, k3⟩ := (HL6.out X6 HKX.out).itemD 0 (by simp)
    cases e
    have y0 : X6.cell? ⟨bL, oL, none⟩ = some (.int .i64 7) := z0
    have y1 : X6.cell? ⟨bL, oL + 1, none⟩ = some (.string ⟨#[]⟩) := z1
    have y2 : X6.cell? ⟨bL, oL + 2, none⟩ = some (.string ⟨#[]⟩) := z2
    have y3 : X6.cell? ⟨bL, oL + 3, none⟩ = some (.int .i64 0) := z3
    have y4 : X6.cell? ⟨bL, oL + 4, none⟩ = some (.int .i64 2) := z4
    have y5 : X6.cell? ⟨bL, oL + 5, none⟩ = some (.int .i64 0) := z5
    have y6 : X6.cell? ⟨bL, oL + 6, none⟩ = some (.string ⟨#[97]⟩) := z6
    have y7 : X6.cell? ⟨bL, oL + 7, none⟩ = some (.slice A1 N1 Q1) := z7
    have y8 : X6.cell? ⟨bL, oL + 8, none⟩ = some (.slice A2 N2 Q2) := z8
    have y9 : X6.cell? ⟨bL, oL + 9, none⟩ = some (.slice A3 N3 Q3) := z9
    have y10 : X6.cell? ⟨bL, oL + 10, none⟩ = some (.complex .f64 0 0) := z10
    have PTo : Hid (Calls Try.prog 12 #[.agg #[.int .i64 7, .string ⟨#[]⟩, .string ⟨#[]⟩, .int .i64 0, .int .i64 2, .int .i64 0, .string ⟨#[97]⟩, .slice A1 N1 Q1, .slice A2 N2 Q2, .slice A3 N3 Q3, .complex .f64 0 0]] X6 fun r w' => ∃ b o q, r = .returned (.slice (some ⟨b, o, none⟩) 1 q) ∧ Hid (Kept X6 w') ∧ w'.cell? ⟨b, o, none⟩ = some (.string ⟨#[97]⟩)) := by
      refine (touches_any sIf X6 _ _ _ k1 k2 k3 (by simp [sIf, St.e, exN, Ex.size, Ex.sizes])).mono ?_
      rintro r w3 ⟨v3, rfl, h3, h4⟩
      rw [touch_if] at h3
      obtain ⟨a, cap, rfl, -⟩ := h3.open
      obtain ⟨b, o, rfl, -, cc⟩ := h3.itemD 0 (by simp)
      exact ⟨b, o, cap, rfl, h4, cc⟩
    clear z0 z1 z2 z3 z4 z5 z6 z7 z8 z9 z10 k1 k2 k3
    go_wp2_with fail
    refine Calls.mono PTo.out ?_
    rintro r w7 ⟨ba, oa, qa, rfl, HH, ma⟩
    have HK7 : Hid (Kept X6 w7) := HKX.out.then HH.out
    clear PTo y0 y1 y2 y3 y4 y5 y6 y7 y8 y9 y10
    clear HH hX6 hW6 i0 i1 s66 s86 s96 fz96 HW6 HC6 HK6
    obtain ⟨_, _, A1, N1, Q1, A2, N2, Q2, A3, N3, Q3, e, -, -, z0, z1, z2, z3, z4, z5, z6, z7, z8, z9, z10, k1, k2, k3⟩ := (HL6.out w7 HK7.out).itemD 2 (by simp)
    cases e
    have y0 : w7.cell? ⟨bL, oL + 22, none⟩ = some (.int .i64 2) := z0
    have y1 : w7.cell? ⟨bL, oL + 23, none⟩ = some (.string ⟨#[109]⟩) := z1
    have y2 : w7.cell? ⟨bL, oL + 24, none⟩ = some (.string ⟨#[]⟩) := z2
    have y3 : w7.cell? ⟨bL, oL + 25, none⟩ = some (.int .i64 0) := z3
    have y4 : w7.cell? ⟨bL, oL + 26, none⟩ = some (.int .i64 0) := z4
    have y5 : w7.cell? ⟨bL, oL + 27, none⟩ = some (.int .i64 0) := z5
    have y6 : w7.cell? ⟨bL, oL + 28, none⟩ = some (.string ⟨#[]⟩) := z6
    have y7 : w7.cell? ⟨bL, oL + 29, none⟩ = some (.slice A1 N1 Q1) := z7
    have y8 : w7.cell? ⟨bL, oL + 30, none⟩ = some (.slice A2 N2 Q2) := z8
    have y9 : w7.cell? ⟨bL, oL + 31, none⟩ = some (.slice A3 N3 Q3) := z9
    have y10 : w7.cell? ⟨bL, oL + 32, none⟩ = some (.complex .f64 0 0) := z10
    have PTo : Hid (Calls Try.prog 12 #[.agg #[.int .i64 2, .string ⟨#[109]⟩, .string ⟨#[]⟩, .int .i64 0, .int .i64 0, .int .i64 0, .string ⟨#[]⟩, .slice A1 N1 Q1, .slice A2 N2 Q2, .slice A3 N3 Q3, .complex .f64 0 0]] w7 fun r w' => ∃ a q, r = .returned (.slice a 0 q) ∧ Hid (Kept w7 w')) := by
      refine (touches_any sLock w7 _ _ _ k1 k2 k3 (by simp [sLock, St.e, Ex.size, Ex.sizes])).mono ?_
      rintro r w3 ⟨v3, rfl, h3, h4⟩
      rw [touch_lock] at h3
      obtain ⟨a, cap, rfl, -⟩ := h3.open
      exact ⟨a, cap, rfl, h4⟩
    clear z0 z1 z2 z3 z4 z5 z6 z7 z8 z9 z10 k1 k2 k3
    go_wp2_with fail
    refine Calls.mono PTo.out ?_
    rintro r w8 ⟨ab, qb, rfl, HH⟩
    have HK8 : Hid (Kept X6 w8) := HK7.out.then HH.out
    clear PTo y0 y1 y2 y3 y4 y5 y6 y7 y8 y9 y10
    have ma8 := HH.out.cellS ma
    clear HH
    obtain ⟨_, _, A1, N1, Q1, A2, N2, Q2, A3, N3, Q3, e, -, -, z0, z1, z2, z3, z4, z5, z6, z7, z8, z9, z10, k1, k2, k3⟩ := (HL6.out w8 HK8.out).itemD 3 (by simp)
    cases e
    have y0 : w8.cell? ⟨bL, oL + 33, none⟩ = some (.int .i64 5) := z0
    have y1 : w8.cell? ⟨bL, oL + 34, none⟩ = some (.string ⟨#[99]⟩) := z1
    have y2 : w8.cell? ⟨bL, oL + 35, none⟩ = some (.string ⟨#[118]⟩) := z2
    have y3 : w8.cell? ⟨bL, oL + 36, none⟩ = some (.int .i64 0) := z3
    have y4 : w8.cell? ⟨bL, oL + 37, none⟩ = some (.int .i64 0) := z4
    have y5 : w8.cell? ⟨bL, oL + 38, none⟩ = some (.int .i64 0) := z5
    have y6 : w8.cell? ⟨bL, oL + 39, none⟩ = some (.string ⟨#[]⟩) := z6
    have y7 : w8.cell? ⟨bL, oL + 40, none⟩ = some (.slice A1 N1 Q1) := z7
    have y8 : w8.cell? ⟨bL, oL + 41, none⟩ = some (.slice A2 N2 Q2) := z8
    have y9 : w8.cell? ⟨bL, oL + 42, none⟩ = some (.slice A3 N3 Q3) := z9
    have y10 : w8.cell? ⟨bL, oL + 43, none⟩ = some (.complex .f64 0 0) := z10
    have PTo : Hid (Calls Try.prog 12 #[.agg #[.int .i64 5, .string ⟨#[99]⟩, .string ⟨#[118]⟩, .int .i64 0, .int .i64 0, .int .i64 0, .string ⟨#[]⟩, .slice A1 N1 Q1, .slice A2 N2 Q2, .slice A3 N3 Q3, .complex .f64 0 0]] w8 fun r w' => ∃ b o q, r = .returned (.slice (some ⟨b, o, none⟩) 1 q) ∧ Hid (Kept w8 w') ∧ w'.cell? ⟨b, o, none⟩ = some (.string ⟨#[118]⟩)) := by
      refine (touches_any sRecv w8 _ _ _ k1 k2 k3 (by simp [sRecv, St.e, Ex.size, Ex.sizes])).mono ?_
      rintro r w3 ⟨v3, rfl, h3, h4⟩
      rw [touch_recv] at h3
      obtain ⟨a, cap, rfl, -⟩ := h3.open
      obtain ⟨b, o, rfl, -, cc⟩ := h3.itemD 0 (by simp)
      exact ⟨b, o, cap, rfl, h4, cc⟩
    clear z0 z1 z2 z3 z4 z5 z6 z7 z8 z9 z10 k1 k2 k3
    go_wp2_with fail
    refine Calls.mono PTo.out ?_
    rintro r w9 ⟨bc, oc, qc, rfl, HH, mc⟩
    have HK9 : Hid (Kept X6 w9) := HK8.out.then HH.out
    clear PTo y0 y1 y2 y3 y4 y5 y6 y7 y8 y9 y10
    have ma9 := HH.out.cellS ma8
    clear HH ma8
    obtain ⟨_, _, A1, N1, Q1, A2, N2, Q2, A3, N3, Q3, e, -, -, z0, z1, z2, z3, z4, z5, z6, z7, z8, z9, z10, k1, k2, k3⟩ := (HL6.out w9 HK9.out).itemD 4 (by simp)
    cases e
    have y0 : w9.cell? ⟨bL, oL + 44, none⟩ = some (.int .i64 4) := z0
    have y1 : w9.cell? ⟨bL, oL + 45, none⟩ = some (.string ⟨#[99]⟩) := z1
    have y2 : w9.cell? ⟨bL, oL + 46, none⟩ = some (.string ⟨#[]⟩) := z2
    have y3 : w9.cell? ⟨bL, oL + 47, none⟩ = some (.int .i64 0) := z3
    have y4 : w9.cell? ⟨bL, oL + 48, none⟩ = some (.int .i64 2) := z4
    have y5 : w9.cell? ⟨bL, oL + 49, none⟩ = some (.int .i64 0) := z5
    have y6 : w9.cell? ⟨bL, oL + 50, none⟩ = some (.string ⟨#[119]⟩) := z6
    have y7 : w9.cell? ⟨bL, oL + 51, none⟩ = some (.slice A1 N1 Q1) := z7
    have y8 : w9.cell? ⟨bL, oL + 52, none⟩ = some (.slice A2 N2 Q2) := z8
    have y9 : w9.cell? ⟨bL, oL + 53, none⟩ = some (.slice A3 N3 Q3) := z9
    have y10 : w9.cell? ⟨bL, oL + 54, none⟩ = some (.complex .f64 0 0) := z10
    have PTo : Hid (Calls Try.prog 12 #[.agg #[.int .i64 4, .string ⟨#[99]⟩, .string ⟨#[]⟩, .int .i64 0, .int .i64 2, .int .i64 0, .string ⟨#[119]⟩, .slice A1 N1 Q1, .slice A2 N2 Q2, .slice A3 N3 Q3, .complex .f64 0 0]] w9 fun r w' => ∃ b o q, r = .returned (.slice (some ⟨b, o, none⟩) 1 q) ∧ Hid (Kept w9 w') ∧ w'.cell? ⟨b, o, none⟩ = some (.string ⟨#[119]⟩)) := by
      refine (touches_any sSend w9 _ _ _ k1 k2 k3 (by simp [sSend, St.e, exN, Ex.size, Ex.sizes])).mono ?_
      rintro r w3 ⟨v3, rfl, h3, h4⟩
      rw [touch_send] at h3
      obtain ⟨a, cap, rfl, -⟩ := h3.open
      obtain ⟨b, o, rfl, -, cc⟩ := h3.itemD 0 (by simp)
      exact ⟨b, o, cap, rfl, h4, cc⟩
    clear z0 z1 z2 z3 z4 z5 z6 z7 z8 z9 z10 k1 k2 k3
    go_wp2_with fail
    refine Calls.mono PTo.out ?_
    rintro r w10 ⟨bd, od, qd, rfl, HH, md⟩
    have HK10 : Hid (Kept X6 w10) := HK9.out.then HH.out
    clear PTo y0 y1 y2 y3 y4 y5 y6 y7 y8 y9 y10
    have ma10 := HH.out.cellS ma9
    have mc10 := HH.out.cellS mc
    clear HH ma9 ma mc
    obtain ⟨_, _, _, _, _, _, _, _, _, _, _, e, -, -, z0, -⟩ := (HL6.out w10 HK10.out).itemD 0 (by simp)
    cases e
    have l0 : w10.cell? ⟨bL, oL, none⟩ = some (.int .i64 7) := z0
    clear z0
    obtain ⟨_, _, _, _, _, _, _, _, _, _, _, e, -, -, z0, -⟩ := (HL6.out w10 HK10.out).itemD 1 (by simp)
    cases e
    have l1 : w10.cell? ⟨bL, oL + 11, none⟩ = some (.int .i64 6) := z0
    clear z0
    obtain ⟨_, _, _, _, _, _, _, _, _, _, _, e, -, -, z0, -⟩ := (HL6.out w10 HK10.out).itemD 2 (by simp)
    cases e
    have l2 : w10.cell? ⟨bL, oL + 22, none⟩ = some (.int .i64 2) := z0
    clear z0
    obtain ⟨_, _, _, _, _, _, _, _, _, _, _, e, -, -, z0, -⟩ := (HL6.out w10 HK10.out).itemD 3 (by simp)
    cases e
    have l3 : w10.cell? ⟨bL, oL + 33, none⟩ = some (.int .i64 5) := z0
    clear z0
    obtain ⟨_, _, _, _, _, _, _, _, _, _, _, e, -, -, z0, -⟩ := (HL6.out w10 HK10.out).itemD 4 (by simp)
    cases e
    have l4 : w10.cell? ⟨bL, oL + 44, none⟩ = some (.int .i64 4) := z0
    clear z0
    have c06x := HK10.out.cellS c06
    have c16x := HK10.out.cellS c16
    have g06x := HK10.out.cellS g06
    have g16x := HK10.out.cellS g16
    have i06x := HK10.out.cellS i06
    have i16x := HK10.out.cellS i16
    have t36x := HK10.out.cellS t36
    have t46x := HK10.out.cellS t46
    have p66x := HK10.out.cellS p66
    have p86x := HK10.out.cellS p86
    have p96x := HK10.out.cellS p96
    clear c06 c16 g06 g16 i06 i16 t36 t46 p66 p86 p96
    go_wp2_with fail
    refine (PS1.out _ HK10.out).mono ?_
    rintro r w11 ⟨rfl, HH⟩
    have HK11 : Hid (Kept X6 w11) := HK10.out.then HH.out
    have c06xy := HH.out.cellS c06x
    have c16xy := HH.out.cellS c16x
    have i06xy := HH.out.cellS i06x
    have i16xy := HH.out.cellS i16x
    have p66xy := HH.out.cellS p66x
    have p86xy := HH.out.cellS p86x
    have p96xy := HH.out.cellS p96x
    have ma10y := HH.out.cellS ma10
    have mc10y := HH.out.cellS mc10
    have mdy := HH.out.cellS md
    clear HH c06x c16x i06x i16x p66x p86x p96x ma10 mc10 md l0 l1 l2 l3 l4 g06x g16x t36x t46x
    go_wp2_with fail
    refine (PS2.out _ HK11.out).mono ?_
    rintro r w12 ⟨rfl, HH⟩
    have HK12 : Hid (Kept X6 w12) := HK11.out.then HH.out
    have c16xyz := HH.out.cellS c16xy
    have p66xyz := HH.out.cellS p66xy
    have p86xyz := HH.out.cellS p86xy
    have p96xyz := HH.out.cellS p96xy
    have ma10yz := HH.out.cellS ma10y
    have mc10yz := HH.out.cellS mc10y
    have mdyz := HH.out.cellS mdy
    clear HH c06xy c16xy i06xy i16xy p66xy p86xy p96xy ma10y mc10y mdy
    go_wp2_with fail
    refine (PLe.out _).mono ?_
    rintro r w13 ⟨ae, qe, rfl, HH⟩
    go_wp2_with fail
    go_ret
    exact ⟨rfl, KW.out.then (HKc6.out.then (HK12.out.then HH.out))⟩
#print axioms treeKnown_any
end Go.Proofs.Ytoaaikbplnpmmaa
