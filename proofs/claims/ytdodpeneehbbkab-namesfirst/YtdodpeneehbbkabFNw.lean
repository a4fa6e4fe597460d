/- Nw -/
import Derived.Test.YtdodpeneehbbkabFNv
import Derived.Deep.RegionWith
import Derived.Deep.RegionHeld3
import Derived.Deep.LoopGhost

namespace Go.Proofs.Ytdodpeneehbbkab
open Go.RowKit
attribute [local go_sem] run_store_complex
set_option maxRecDepth 100000 in
theorem cut_dj (w : World) (a : Option Addr) (n cap j : Nat) (h : (j : Int) ≤ (n : Int)) : (Instr.sliceAt 28 (.slice a n cap) (some (.int .i64 (j : Int))) none none).run Try.prog w = .ok (.slice (cutAt a j cap 4) (n - j) (cap - j)) w :=
  run_cut_l Try.underlying28 rfl Try.sizeOf46 a n cap j (by omega) w
attribute [local go_sem ↓] cut_dj
set_option maxRecDepth 100000 in
set_option maxHeartbeats 8000000 in
theorem namesFirst_row (how : Int) (l : List Int) (lv : Value) (k0 : Int) (w : World) (hh1 : -9223372036854775808 ≤ how) (hh2 : how ≤ 9223372036854775807) (hl : IntsR w w.heap.size l lv) (_hk1 : -9223372036854775808 ≤ k0) (_hk2 : k0 ≤ 9223372036854775807) :
    Calls Try.prog 6 #[.int .i64 how, lv, .int .i64 k0] w fun e w' => e = .returned (.bool true) ∧ Kept w w' := by
  have HP : Hid _ := prog_any how [] [] [] (.slice none 0 0) (.slice none 0 0) (.slice none 0 0) 1 w hh1 hh2 (acts_nil _ _) (acts_nil _ _) (acts_nil _ _) (by omega) (by omega)
  have HL : Hid (IntsR w w.heap.size l lv) := hl
  obtain ⟨la, lcap, rfl, hl1, hl2, -⟩ := hl.out
  have KN : Hid (∀ W, Calls Try.prog 10 #[] W fun e w' => e = .returned (.bool true) ∧ Kept W w') := fun W => known_any W
  clear hl hh1 hh2
  go_enter Try.func6, Try.ntmps6
  go_wp2_with fail
  refine Calls.mono HP.out ?_
  rintro e w1 ⟨d0, t0, c1, n1, q1, c2, n2, q2, rfl, HM⟩
  obtain ⟨hds, hts, hg, hk⟩ := HM.out
  obtain ⟨s, hsh, d, t, hmr, -, hrd⟩ := made_read hg hds hts
  have SH : Hid _ := hsh
  have RD : Hid _ := hrd
  have HMR : Hid (MadeR d t) := hmr
  have HK1 : Hid (Kept w w1) := hk
  clear hds hts hg hk hsh hrd hmr HM HP
  go_wp2_with fail
  refine Calls.mono SH.out ?_
  rintro e w2 ⟨rfl, k2⟩
  have HK2 : Hid (Kept w w2) := HK1.out.then k2
  clear SH HK1 k2
  go_wp2_with fail
  refine Calls.mono (RD.out _) ?_
  rintro e w3 ⟨a1, p1, a2, p2, rfl, H3⟩
  obtain ⟨k3, ho3, ht3⟩ := H3.out
  have HK3 : Hid (Kept w w3) := HK2.out.then k3
  have HD8 : Hid (d.length = 8) := HMR.out.dl
  have TU : Hid (Calls Try.prog 13 #[.agg #[.slice a1 d.length p1, .slice a2 t.length p2], .slice la l.length lcap] w3 fun e w' => ∃ (ds : List Dc) (a1 : Option Addr) (q1 : Nat), e = .returned (.agg #[.slice a1 ds.length q1, .slice a2 t.length p2]) ∧ Hid (Kept w3 w' ∧ OwnD w' w3.heap.size ds (.slice a1 ds.length q1) ∧ TurnedD ds d.length)) := turned_any d l w3 _ (.slice la l.length lcap) a2 t.length p2 ho3 (by have := HMR.out.dl; omega) (by have := HMR.out.dl; omega) ⟨rfl, HMR.out.fd, HMR.out.ok.1⟩ ((HL.out.kept HK3.out).mono HK3.out.size)
  clear RD HK2 k3 ho3 ht3 H3 HL hl1 hl2 HMR
  go_wp2_with fail
  refine Calls.mono TU.out ?_
  rintro e w4 ⟨ds, a4, p4, rfl, H4⟩
  obtain ⟨k4, ho4, htd⟩ := H4.out
  have HK4 : Hid (Kept w w4) := HK3.out.then k4
  have hlen : ds.length = 8 := by rw [htd.len, HD8.out]
  have HO : Hid (OwnD w4 w3.heap.size ds (.slice a4 ds.length p4)) := ho4
  clear TU k4 ho4 H4 HK3 HD8
  rw [hlen] at HO ⊢
  obtain ⟨g, rfl⟩ : ∃ g, a4 = some ⟨g, 0, none⟩ := by
    rcases HO.out.row.2 with ⟨e0, e1⟩ | ⟨g, cap', cur, e0, -⟩
    · omega
    · injection e0 with e0; exact ⟨g, e0⟩
  go_wp2_with fail
  obtain ⟨W5, hW5⟩ : ∃ W, w4.alloc (.cells #[.slice (some ⟨g, 0, none⟩) 8 p4, .slice a2 t.length p2] 31) = W := ⟨_, rfl⟩
  obtain ⟨P, hP⟩ : ∃ P, w4.heap.size = P := ⟨_, rfl⟩
  have k45 : Kept w4 W5 := by rw [← hW5]; exact (Kept.refl _).al _
  have HK5 : Hid (Kept w W5) := HK4.out.then k45
  have HBX : Hid (BoxS W5 P [.slice (some ⟨g, 0, none⟩) 8 p4, .slice a2 t.length p2]) := by rw [← hW5, ← hP]; exact box_newQ _ _ _
  have HO5 : Hid (OwnD W5 0 ds (.slice (some ⟨g, 0, none⟩) 8 p4)) := (HO.out.bu (M := fun _ => False) (Bu.of k45) fun _ _ _ c => c).lower (Nat.zero_le _)
  have HDS : Hid (DsIn W5 0 W5.heap.size ds (.slice (some ⟨g, 0, none⟩) 8 p4)) := HO5.out.ds fun k e => ⟨Nat.zero_le _, (HO5.out.row.lt k e).2⟩
  have HLEN : Hid (ds.length = 8) := hlen
  have FD : Hid (∀ (x : ByteArray) (W : World), Kept W5 W → Calls Try.prog 11 #[.agg #[.slice (some ⟨g, 0, none⟩) 8 p4, .slice a2 t.length p2], .string x] W fun e w' => e = .returned (.int .i64 (Nf.find ds 0 x)) ∧ Kept W w') :=
    fun x W hW => find_any ds x W _ a2 t.length p2 (HDS.out.up (Nat.le_refl _) hW)
  rw [hW5, hP]
  clear HK4 HO k45 hW5 hP htd hlen
  go_loopw [26] (fun i wr => ∃ k : Nat, i = .int .i64 (k : Int) ∧ k ≤ 8 ∧ Hid (Kept W5 wr)) (fun i _ => 8 - (intOf i).toNat)
  case atStart => exact ⟨0, rfl, by decide, Kept.refl _⟩
  case round =>
    obtain ⟨k, rfl, hk, HB⟩ := hrel
    by_cases hlt : k < 8
    · have hki : (k : Int) < 8 := by omega
      have HOr : Hid (OwnD wr 0 ds (.slice (some ⟨g, 0, none⟩) 8 p4)) := HO5.out.bu (M := fun _ => False) (Bu.of HB.out) fun _ _ _ c => c
      have hkd : k < ds.length := by have := HLEN.out; omega
      obtain ⟨x0, x1, x2, x3, xf, xl⟩ := HOr.out.cell k hkd
      have bx := HBX.out.kept HB.out
      have p0 := bx.cell 0 rfl
      have p1 := bx.cell 1 rfl
      have pl := bx.lt
      obtain ⟨n, hn, hfn, hname, hbef⟩ : ∃ n, ∃ h : n < ds.length, Nf.find ds 0 ds[k].name = (n : Int) ∧ ds[n].name = ds[k].name ∧ ∀ m, ∀ h' : m < n, (ds[m]'(Nat.lt_trans h' h)).name ≠ ds[k].name := by
        rcases Nf.find_cases ds[k].name ds 0 with ⟨_, h⟩ | ⟨n, hn, h1, h2, h3⟩
        · exact absurd rfl (h _ (List.getElem_mem hkd))
        · exact ⟨n, hn, by rw [h1, Nat.zero_add], h2, h3⟩
      have hnk : n ≤ k := Nat.le_of_not_lt fun h => hbef k h rfl
      have HN : Hid (n ≤ k ∧ n < 8) := ⟨hnk, by omega⟩
      obtain ⟨x, hx⟩ : ∃ x, ds[k].name = x := ⟨_, rfl⟩
      rw [hx] at x1 hfn hname
      have HNM : Hid (∃ h : n < ds.length, ds[n].name = x) := ⟨hn, hname⟩
      have HBE : Hid (∀ m, ∀ h' : m < n, ∃ h : m < ds.length, (ds[m].name.toList == x.toList) = false) := fun m h' => ⟨Nat.lt_trans h' hn, by rw [eqB]; exact decide_eq_false (by rw [← hx]; exact hbef m h')⟩
      have FK : Hid (∀ W, Kept W5 W → Calls Try.prog 11 #[.agg #[.slice (some ⟨g, 0, none⟩) 8 p4, .slice a2 t.length p2], .string x] W fun e w' => e = .returned (.int .i64 (n : Int)) ∧ Kept W w') := fun W hW => by rw [← hfn]; exact FD.out x W hW
      generalize ds[k].kind = z0 at *
      generalize ds[k].n = z2 at *
      generalize ds[k].re = z3 at *
      generalize ds[k].im = z4 at *
      clear bx hn hfn hname hbef hnk hx
      go_wp2_with fail
      refine (FK.out _ (HB.out.al _)).mono ?_
      rintro e w6 ⟨rfl, k6⟩
      obtain ⟨D, hD⟩ : ∃ D, wr.heap.size = D := ⟨_, rfl⟩
      have d1 : w6.cell? ⟨wr.heap.size, 1, none⟩ = some (.string x) := k6.cellS (by simp)
      have dl := block_lt_of_cell d1
      have HB6 : Hid (Kept W5 w6) := (HB.out.al _).then k6
      have HO6 : Hid (OwnD w6 0 ds (.slice (some ⟨g, 0, none⟩) 8 p4)) := HO5.out.bu (M := fun _ => False) (Bu.of HB6.out) fun _ _ _ c => c
      rw [hD] at d1 dl ⊢
      clear x0 x1 x2 x3 xf xl p0 p1 pl k6 hD HB HOr hkd
      have bx := HBX.out.kept HB6.out
      have p0 := bx.cell 0 rfl
      have p1 := bx.cell 1 rfl
      have pl := bx.lt
      obtain ⟨hnd, hname⟩ := HNM.out
      obtain ⟨y0, y1, y2, y3, yf, yl⟩ := HO6.out.cell n hnd
      rw [hname] at y1
      have hn0 : decide ((n : Int) < 0) = false := decide_eq_false (by omega)
      have hn1 : decide ((k : Int) < (n : Int)) = false := decide_eq_false (by have := HN.out.1; omega)
      have hn2 : decide (k < n) = false := decide_eq_false (by have := HN.out.1; omega)
      have hn8 : (n : Int) < 8 := by have := HN.out.2; omega
      clear bx y0 y2 y3 hname hnd
      have HD1 : Hid (Kept W5 w6 ∧ w6.cell? ⟨D, 1, none⟩ = some (.string x)) := ⟨HB6.out, d1⟩
      clear HO6
      go_wp2_with fail
      go_region_held3 (fun w' => w'.cell? ⟨P, 0, none⟩ = some (.slice (some ⟨g, 0, none⟩) 8 p4) ∧ w'.cell? ⟨g, n * 4 + 1, none⟩ = some (.string x) ∧ w'.cell? ⟨D, 1, none⟩ = some (.string x)) (go_keep) (fail)
      clear y1 yf yl hn0 hn1 hn2 hn8 p0 p1 pl d1 dl HB6
      go_wp2_with fail
      go_loopw [11] (fun j wr' => ∃ m : Nat, j = .int .i64 (m : Int) ∧ m ≤ n ∧ Hid (Kept W5 wr' ∧ wr'.cell? ⟨D, 1, none⟩ = some (.string x))) (fun j _ => n - (intOf j).toNat)
      case atStart => exact ⟨0, rfl, Nat.zero_le _, HD1.out.1.dr, (Kept.refl _).dr.cellS HD1.out.2⟩
      case round =>
        obtain ⟨m, rfl, hm, HM⟩ := hrel
        by_cases hml : m < n
        · have hmi : (m : Int) < (n : Int) := by omega
          have hm8 : (m : Int) < 8 := by have := HN.out.2; omega
          have hwm : IntKind.i64.wrap ((m : Int) + 1) = (m : Int) + 1 := by rw [IntKind.wrap_i64]; have := HN.out.2; omega
          obtain ⟨hmd, hne⟩ := HBE.out m hml
          obtain ⟨y0, y1, y2, y3, yf, yl⟩ := (HO5.out.bu (M := fun _ => False) (Bu.of HM.out.1) fun _ _ _ c => c).cell m hmd
          have bx := HBX.out.kept HM.out.1
          have p0 := bx.cell 0 rfl
          have pl := bx.lt
          have d1 := HM.out.2
          have dl := block_lt_of_cell d1
          obtain ⟨y, hy⟩ : ∃ y, ds[m].name = y := ⟨_, rfl⟩
          rw [hy] at y1 hne
          clear y0 y2 y3 hmd bx hy
          go_wp2_with fail
          go_region_held3 (fun w' => w'.cell? ⟨P, 0, none⟩ = some (.slice (some ⟨g, 0, none⟩) 8 p4) ∧ w'.cell? ⟨g, m * 4 + 1, none⟩ = some (.string y) ∧ w'.cell? ⟨D, 1, none⟩ = some (.string x)) (go_keep) (fail)
          go_wp2_with fail
          go_roundw
          case rel => exact ⟨m + 1, by go_num, by omega, HM.out.1.dr, (Kept.refl _).dr.cellS HM.out.2⟩
          case measure => simp [intOf]; omega
        · have hmi : ¬ (m : Int) < (n : Int) := by omega
          go_wp2_with fail
          go_roundw
          case rel => exact ⟨k + 1, by go_num, by omega, HM.out.1⟩
          case measure => simp [intOf]; omega
    · have hki : ¬ (k : Int) < 8 := by omega
      have bx := HBX.out.kept HB.out
      have p0 := bx.cell 0 rfl
      have p1 := bx.cell 1 rfl
      have pl := bx.lt
      obtain ⟨j, hj8, -, hP⟩ := pick_nat k0 8 (by omega) (by omega)
      have PK : Hid (∀ W, Calls Try.prog 17 #[.int .i64 k0, .int .i64 8] W fun e w' => e = .returned (.int .i64 (j : Int)) ∧ w' = W) := hP
      clear bx hP
      have hj : (j : Int) < 8 := by omega
      have HJ : Hid (j < 8) := hj8
      have hcap : 8 ≤ p4 := by
        obtain ⟨_, _, e, hs⟩ := own_slice HO5.out.row
        injection e with _ e1 e2
        have := hs.le
        have := HLEN.out
        omega
      have hcut : cutAt (some ⟨g, 0, none⟩) j p4 4 = some ⟨g, j * 4, none⟩ := by rw [cutAt_some (by omega), Nat.zero_add]
      have hj8i : (j : Int) ≤ ((8 : Nat) : Int) := by omega
      have HCUT : Hid _ := hcut
      clear hcut
      go_wp2_with fail
      obtain ⟨W6, hW6⟩ : ∃ W, wr.alloc (.cells #[.slice (some ⟨g, 0, none⟩) 8 p4, .slice a2 t.length p2] 31) = W := ⟨_, rfl⟩
      obtain ⟨Q, hQ⟩ : ∃ Q, wr.heap.size = Q := ⟨_, rfl⟩
      have k6 : Kept wr W6 := by rw [← hW6]; exact (Kept.refl _).al _
      have HB6 : Hid (Kept W5 W6) := HB.out.then k6
      have HQ : Hid (BoxS W6 Q [.slice (some ⟨g, 0, none⟩) 8 p4, .slice a2 t.length p2]) := by rw [← hW6, ← hQ]; exact box_newQ _ _ _
      have HQ5 : Hid (W5.heap.size ≤ Q) := by have := HB.out.size; rw [← hQ]; exact this
      rw [hW6, hQ]
      clear p0 p1 pl hW6 k6 HB hQ
      have bx := HBX.out.kept HB6.out
      have p0 := bx.cell 0 rfl
      have pl := bx.lt
      have c0 := HQ.out.cell 0 rfl
      have cf := HQ.out.fz 0
      have cl := HQ.out.lt
      clear bx
      go_region_with (first | (go_at_call 17; refine (PK.out _).mono ?_; rintro e w5 ⟨rfl, rfl⟩) | fail)
      all_goals
        have k57 : Kept W5 (W6.setCell ⟨Q, 0, none⟩ (.slice (some ⟨g, j * 4, none⟩) (8 - j) (p4 - j))) := Below.setCell HB6.out HQ5.out _
        have kw7 : Kept w (W6.setCell ⟨Q, 0, none⟩ (.slice (some ⟨g, j * 4, none⟩) (8 - j) (p4 - j))) := HK5.out.then k57
        have bq := HQ.out.set 0 [.slice (some ⟨g, j * 4, none⟩) (8 - j) (p4 - j)] (by simp)
        obtain ⟨W7, hW7⟩ : ∃ W, W6.setCell ⟨Q, 0, none⟩ (.slice (some ⟨g, j * 4, none⟩) (8 - j) (p4 - j)) = W := ⟨_, rfl⟩
        have hbq : BoxS W7 Q [.slice (some ⟨g, j * 4, none⟩) (8 - j) (p4 - j), .slice a2 t.length p2] := by rw [← hW7]; exact bq
        have HQ7 : Hid (BoxS W7.drew Q [.slice (some ⟨g, j * 4, none⟩) (8 - j) (p4 - j), .slice a2 t.length p2]) := hbq.kept (Kept.refl _).dr
        rw [hW7] at k57 kw7 ⊢
        have HK7 : Hid (Kept W5 W7.drew) := k57.dr
        have HKW : Hid (Kept w W7.drew) := kw7.dr
        have hjd : j < ds.length := by have := HLEN.out; have := HJ.out; omega
        obtain ⟨y, hy⟩ : ∃ y, ds[j].name = y := ⟨_, rfl⟩
        have HY : Hid (∀ W, Kept W5 W → W.cell? ⟨g, j * 4 + 1, none⟩ = some (.string y)) := fun W hW => by
          have h := ((HO5.out.bu (M := fun _ => False) (Bu.of hW) fun _ _ _ c => c).cell j hjd).2.1
          rw [hy] at h; exact h
        have F0 : Hid (∀ W, Calls Try.prog 11 #[.agg #[.slice none 0 0, .slice none 0 0], .string ⟨#[120]⟩] W fun e w' => e = .returned (.int .i64 (-1)) ∧ Kept W w') := fun W => find_any [] _ W _ none 0 0 (DsD.nil _ _)
        have FQ : Hid (∀ W, Kept W5 W → Calls Try.prog 11 #[.agg #[.slice (some ⟨g, j * 4, none⟩) (8 - j) (p4 - j), .slice a2 t.length p2], .string y] W fun e w' => e = .returned (.int .i64 0) ∧ Kept W w') := fun W hW => by
          have h := (HDS.out.up (Nat.le_refl _) hW).cut j hjd
          rw [HCUT.out] at h
          have h2 := find_any (ds.drop j) y W _ a2 t.length p2 h
          rwa [Nf.find_step ds j hjd 0 y, if_pos hy] at h2
        clear hW7 k57 kw7 bq hbq hjd hy HB6 HQ HBX HDS HLEN FD HO5
        clear p0 pl c0 cf cl
        go_wp2_with fail
        go_region_with (first
          | (go_at_call 10; refine (KN.out _).mono ?_; rintro e w8 ⟨rfl, k8⟩; have HK8 : Hid (Kept W7.drew.drew w8) := k8; clear k8)
          | (go_at_call_of 11 (Value.agg #[.slice none 0 0, .slice none 0 0]); refine (F0.out _).mono ?_; rintro e w9 ⟨rfl, k9⟩; have HK9 : Hid (Kept W7.drew.drew w9) := HK8.out.then k9; have c0 := (HK9.out.cellS ((Kept.refl _).dr.cellS (HQ7.out.cell 0 rfl))); have c1 := (HK9.out.cellS ((Kept.refl _).dr.cellS (HQ7.out.cell 1 rfl))); have cl := block_lt_of_cell c0; have y1 := HY.out _ (HK7.out.dr.then HK9.out); have yl := block_lt_of_cell y1; clear k9)
          | (go_at_call_of 11 (Value.agg #[.slice (some ⟨g, j * 4, none⟩) (8 - j) (p4 - j), .slice a2 t.length p2]); refine (FQ.out _ (HK7.out.dr.then HK9.out)).mono ?_; rintro e w10 ⟨rfl, k10⟩; have HK10 : Hid (Kept W7.drew.drew w10) := HK9.out.then k10; clear k10)
          | fail)
        all_goals
          go_wp2_with fail
          go_ret
          exact ⟨rfl, HKW.out.then ((Kept.refl _).dr.then HK10.out)⟩
end Go.Proofs.Ytdodpeneehbbkab
