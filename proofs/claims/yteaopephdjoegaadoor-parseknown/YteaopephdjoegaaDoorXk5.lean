/- ParseKnown answers true: its walk. -/
import Derived.Test.YteaopephdjoegaaDoorPk
namespace Go.Proofs.YteaopephdjoegaaDoor
open Go.RowKit
attribute [local go_sem] run_store_complex

theorem bad_range (w : World) (o : Obj) : (((w.alloc (.cells badCells 32))).alloc o).rangeAt w.heap.size 0 badCells.toList := by
  intro j v hv
  rw [Nat.zero_add]
  have h : (w.alloc (.cells badCells 32)).cell? ⟨w.heap.size, j, none⟩ = some v := by
    rw [cell_of_row _ _ j badCells 32 (0, 0) (heap_alloc_last w _)]
    rw [← hv]; simp
  exact ((Kept.refl (w.alloc (.cells badCells 32))).al o).cellS h

theorem bsz (a : List UInt8) : (⟨a.toArray⟩ : ByteArray).size = a.length := by simp [ByteArray.size]
/-- Where the example's parts lie. -/
structure LoAt (w : World) (z : Nat) (b1 o1 b2 o2 b3 o3 q3 b4 o4 q4 bE oE qE bB oB qB : Nat) : Prop where
  z1 : b1 < z
  z2 : b2 < z
  z3 : b3 < z
  z4 : b4 < z
  zE : bE < z
  zB : bB < z
  d0 : w.cell? ⟨b1, o1 + 2, none⟩ = some (.int .i64 3)
  d1 : w.cell? ⟨b1, o1 + 7, none⟩ = some (.complex .f64 4611686018427387904 4607182418800017408)
  t0 : w.cell? ⟨b2, o2, none⟩ = some (.slice (some ⟨b3, o3, none⟩) 7 q3)
  t1 : w.cell? ⟨b2, o2 + 1, none⟩ = some (.slice (some ⟨b4, o4, none⟩) 1 q4)
  c0 : w.cell? ⟨b3, o3, none⟩ = some (.int .i64 2)
  c11 : w.cell? ⟨b3, o3 + 11, none⟩ = some (.int .i64 3)
  c22 : w.cell? ⟨b3, o3 + 22, none⟩ = some (.int .i64 4)
  c23 : w.cell? ⟨b3, o3 + 23, none⟩ = some (.string ⟨#[99]⟩)
  c26 : w.cell? ⟨b3, o3 + 26, none⟩ = some (.int .i64 4)
  c33 : w.cell? ⟨b3, o3 + 33, none⟩ = some (.int .i64 5)
  c35 : w.cell? ⟨b3, o3 + 35, none⟩ = some (.string ⟨#[116]⟩)
  c48 : w.cell? ⟨b3, o3 + 48, none⟩ = some (.int .i64 3)
  c55 : w.cell? ⟨b3, o3 + 55, none⟩ = some (.int .i64 7)
  c63 : ∃ a q, w.cell? ⟨b3, o3 + 63, none⟩ = some (.slice a 0 q)
  c64 : w.cell? ⟨b3, o3 + 64, none⟩ = some (.slice (some ⟨bE, oE, none⟩) 1 qE)
  cE : w.cell? ⟨bE, oE, none⟩ = some (.int .i64 9)
  c69 : w.cell? ⟨b3, o3 + 69, none⟩ = some (.int .i64 9)
  c74 : w.cell? ⟨b3, o3 + 74, none⟩ = some (.slice (some ⟨bB, oB, none⟩) 1 qB)
  cB : w.cell? ⟨bB, oB + 1, none⟩ = some (.string ⟨#[97]⟩)
  s8 : ∃ a q, w.cell? ⟨b4, o4 + 8, none⟩ = some (.slice a 1 q)
  s9 : ∃ a q, w.cell? ⟨b4, o4 + 9, none⟩ = some (.slice a 0 q)
theorem LoAt.kept {w w' : World} {z b1 o1 b2 o2 b3 o3 q3 b4 o4 q4 bE oE qE bB oB qB : Nat} (h : LoAt w z b1 o1 b2 o2 b3 o3 q3 b4 o4 q4 bE oE qE bB oB qB) (k : Kept w w') : LoAt w' z b1 o1 b2 o2 b3 o3 q3 b4 o4 q4 bE oE qE bB oB qB := by
  obtain ⟨h1, h2, h3, h4, hE, hB, d0, d1, t0, t1, c0, c11, c22, c23, c26, c33, c35, c48, c55, ⟨a5, q5, c63⟩, c64, cE, c69, c74, cB, ⟨a6, q6, s8⟩, ⟨a7, q7, s9⟩⟩ := h
  exact ⟨h1, h2, h3, h4, hE, hB, k.cellS d0, k.cellS d1, k.cellS t0, k.cellS t1, k.cellS c0, k.cellS c11, k.cellS c22, k.cellS c23, k.cellS c26, k.cellS c33, k.cellS c35, k.cellS c48, k.cellS c55, ⟨a5, q5, k.cellS c63⟩, k.cellS c64, k.cellS cE, k.cellS c69, k.cellS c74, k.cellS cB, ⟨a6, q6, k.cellS s8⟩, ⟨a7, q7, k.cellS s9⟩⟩
theorem loAt {w : World} {lo : Nat} {a1 a2 : Option Addr} {n1 n2 q1 q2 : Nat} (hd : DsIn w lo w.heap.size dLo (.slice a1 n1 q1)) (ht : TsIn w lo w.heap.size tLo (.slice a2 n2 q2)) :
    ∃ b1 o1 b2 o2 b3 o3 q3 b4 o4 q4 bE oE qE bB oB qB, a1 = some ⟨b1, o1, none⟩ ∧ a2 = some ⟨b2, o2, none⟩ ∧ n1 = 2 ∧ n2 = 2 ∧ LoAt w w.heap.size b1 o1 b2 o2 b3 o3 q3 b4 o4 q4 bE oE qE bB oB qB := by
  obtain ⟨_, _, ed, -⟩ := hd.open
  obtain ⟨_, _, et, -⟩ := ht.open
  injection ed with _ e4 _
  injection et with _ e7 _
  obtain ⟨b1, o1, rfl, -, z1, -, -, -, d0, -⟩ := hd.item (StaysD.refl _ _) 0 (by decide)
  obtain ⟨b1', o1', e1, -, -, -, -, -, -, d1⟩ := hd.item (StaysD.refl _ _) 1 (by decide)
  obtain ⟨b2, o2, a3, n3, q3, rfl, -, z2, -, t0, hs⟩ := ht.item (StaysD.refl _ _) 0 (by decide)
  obtain ⟨b2', o2', a4, n4, q4, e2, -, -, -, t1, hs'⟩ := ht.item (StaysD.refl _ _) 1 (by decide)
  cases e1; cases e2
  obtain ⟨_, _, es, -⟩ := hs.open
  obtain ⟨_, _, es', -⟩ := hs'.open
  injection es with _ e8 _
  injection es' with _ e9 _
  obtain rfl : n3 = 7 := e8
  obtain rfl : n4 = 1 := e9
  obtain ⟨b3, o3, _, _, _, _, _, _, _, _, _, rfl, -, z3, -, c0, -⟩ := hs.item (StaysD.refl _ _) 0 (by decide)
  obtain ⟨_, _, _, _, _, _, _, _, _, _, _, x1, -, -, -, c11, -⟩ := hs.item (StaysD.refl _ _) 1 (by decide)
  obtain ⟨_, _, _, _, _, _, _, _, _, _, _, x2, -, -, -, c22, c23, -, -, c26, -⟩ := hs.item (StaysD.refl _ _) 2 (by decide)
  obtain ⟨_, _, _, _, _, _, _, _, _, _, _, x3, -, -, -, c33, -, c35, -⟩ := hs.item (StaysD.refl _ _) 3 (by decide)
  obtain ⟨_, _, _, _, _, _, _, _, _, _, _, x4, -, -, -, -, -, -, -, c48, -⟩ := hs.item (StaysD.refl _ _) 4 (by decide)
  obtain ⟨_, _, _, _, _, aF, nF, qF, aE, nE, qE, x5, -, -, -, c55, -, -, -, -, -, -, -, c63, c64, -, -, hF, hEl⟩ := hs.item (StaysD.refl _ _) 5 (by decide)
  obtain ⟨_, _, _, _, _, aB, nB, qB, _, _, _, x6, -, -, -, -, -, -, c69, -, -, -, -, c74, -, -, -, hBo, -⟩ := hs.item (StaysD.refl _ _) 6 (by decide)
  cases x1; cases x2; cases x3; cases x4; cases x5; cases x6
  obtain ⟨b4, o4, _, _, _, aG, nG, qG, aH, nH, qH, rfl, -, z4, -, -, -, -, -, -, -, -, -, s8, s9, -, -, hG, hH⟩ := hs'.item (StaysD.refl _ _) 0 (by decide)
  obtain ⟨_, _, eF, -⟩ := hF.open
  obtain ⟨_, _, eE, -⟩ := hEl.open
  obtain ⟨_, _, eB, -⟩ := hBo.open
  obtain ⟨_, _, eG, -⟩ := hG.open
  obtain ⟨_, _, eH, -⟩ := hH.open
  injection eF with _ fF _
  injection eE with _ fE _
  injection eB with _ fB _
  injection eG with _ fG _
  injection eH with _ fH _
  obtain rfl : nF = 0 := fF
  obtain rfl : nE = 1 := fE
  obtain rfl : nB = 1 := fB
  obtain rfl : nG = 1 := fG
  obtain rfl : nH = 0 := fH
  obtain ⟨bE, oE, _, _, _, _, _, _, _, _, _, rfl, -, zE, -, cE, -⟩ := hEl.item (StaysD.refl _ _) 0 (by decide)
  obtain ⟨bB, oB, _, _, _, _, _, _, _, _, _, rfl, -, zB, -, -, cB, -⟩ := hBo.item (StaysD.refl _ _) 0 (by decide)
  exact ⟨b1, o1, b2, o2, b3, o3, q3, b4, o4, q4, bE, oE, qE, bB, oB, qB, rfl, rfl, e4, e7, z1, z2, z3, z4, zE, zB, d0, d1, t0, t1, c0, c11, c22, c23, c26, c33, c35, c48, c55, ⟨_, _, c63⟩, c64, cE, c69, c74, cB, ⟨_, _, s8⟩, ⟨_, _, s9⟩⟩

set_option maxRecDepth 100000 in
set_option maxHeartbeats 4000000 in
theorem parseKnown_row (w : World) (hE : Er w) : Calls Tryd.prog 3 #[] w fun e w' => e = .returned (.bool true) ∧ Kept w w' := by
  have HKN := hide (fun W (k : Kept w W) => known_any W (hE.kept k))
  have HRD := hide (fun (s : ByteArray) (hs : s.size ≤ 1125899906842624) r q (hr : Pp.out s = (r, q)) W (k : Kept w W) => pread_any s hs W (hE.kept k) r q hr)
  have HLO := hide (pread_any sLo (by decide +kernel) w hE _ _ outLo)
  clear hE
  go_enter Tryd.func3, Tryd.ntmps3
  go_wp2_with fail
  refine (unhide HLO).mono ?_
  rintro e w1 ⟨a1, n1, q1, a2, n2, q2, X, Y, E, rfl, H⟩
  obtain ⟨hk, -, hv⟩ := unhide H
  obtain ⟨rfl, rfl, rfl, hd, ht⟩ := hv _ _ rfl
  obtain ⟨b1, o1, b2, o2, b3, o3, q3, b4, o4, q4, bE, oE, qE, bB, oB, qB, rfl, rfl, rfl, rfl, hlo⟩ := loAt hd ht
  have HK1 := hide hk
  have HLA := hide hlo
  clear hk H hv HLO hd ht hlo
  go_wp2_with fail
  refine (unhide HKN _ ((unhide HK1).al _)).mono ?_
  rintro e w2 ⟨rfl, k2⟩
  obtain ⟨P, hP⟩ : ∃ P, w1.heap.size = P := ⟨_, rfl⟩
  have p0 : w2.cell? ⟨P, 0, none⟩ = some (.slice (some ⟨b1, o1, none⟩) 2 q1) := k2.cellS (by rw [← hP]; simp)
  have p1 : w2.cell? ⟨P, 1, none⟩ = some (.slice (some ⟨b2, o2, none⟩) 2 q2) := k2.cellS (by rw [← hP]; simp)
  have pz : P < w2.heap.size := by have := k2.size; simp at this; omega
  have HK2 := hide (((unhide HK1).al _).then k2)
  have hla := (unhide HLA).kept (((Kept.refl _).al _).then k2)
  rw [hP] at hla ⊢
  have HLA2 := hide hla
  have z1 := Nat.lt_trans hla.z1 pz
  have z2 := Nat.lt_trans hla.z2 pz
  have z3 := Nat.lt_trans hla.z3 pz
  have z4 := Nat.lt_trans hla.z4 pz
  have t0 := hla.t0
  have t1 := hla.t1
  have HPP := hide (And.intro p0 (And.intro p1 pz))
  clear hla k2 HK1 HLA hP
  go_wp2_with (first
    | (refine wpList_build_to (by rfl) 32 _ (by rfl) badCells (bad_built _) ?_)
    | (refine wpList_build_to (by rfl) 33 _ (by rfl) atCells (at_built _) ?_)
    | (refine wpList_store_new (by rfl) 32 _ _ (by rfl) _ badCells (by rfl) (by rfl) bad_info bad_sz bad_one ?_)
    | (refine wpList_store_new (by rfl) 33 _ _ (by rfl) _ atCells (by (show Value.pointer (some ⟨w2.heap.size + 1, 0, none⟩) = Value.pointer (some ⟨(World.alloc w2 _).heap.size, 0, none⟩)); simp) (by rfl) at_info at_sz at_one ?_)
    | (refine wpList_load_mid (by rfl) 32 _ (by rfl) w2.heap.size 0 (by rfl) badCells.toList _ (bad_range _ _) Tryd.underlying32 rfl bad_info ?_))
  obtain ⟨W0, hW0⟩ : ∃ W, (w2.alloc (.cells badCells 32)).alloc (.cells atCells 33) = W := ⟨_, rfl⟩
  have hat : ∀ k : Nat, k < 18 → W0.cell? ⟨w2.heap.size + 1, k, none⟩ = some (.int .i64 ((badAt.getD k 0 : Nat) : Int)) := by
    intro k hk
    rw [← hW0]
    have := at_cell (w2.alloc (.cells badCells 32)) k hk
    simpa using this
  have KW : Kept w2 W0 := by rw [← hW0]; exact ((Kept.refl _).al _).al _
  have hZ : W0.heap.size = w2.heap.size + 2 := by rw [← hW0]; simp
  obtain ⟨B, hB⟩ : ∃ B, w2.heap.size + 1 = B := ⟨_, rfl⟩
  rw [hW0]
  rw [hB] at hat ⊢
  have hBz : B < W0.heap.size := by omega
  have HAT := hide hat
  have HKW := hide ((unhide HK2).then KW)
  have HKW2 := hide KW
  clear hat hZ hW0 t0 t1 p0 p1 KW hB
  go_loopw [69] (fun i wr => ∃ k : Nat, i = .int .i64 (k : Int) ∧ k ≤ 18 ∧ Hid (Kept W0 wr)) (fun i _ => 18 - (intOf i).toNat)
  case atStart => exact ⟨0, rfl, by decide, Kept.refl _⟩
  case round =>
    obtain ⟨k, rfl, hk, HB⟩ := hrel
    by_cases hlt : k < 18
    · have hki : (k : Int) < 18 := by omega
      obtain ⟨hs1, hs2⟩ := bad_size k hlt
      have RD := hide (unhide HRD (badB k) (by omega) _ _ (bad_out k hlt) wr ((unhide HKW).then (unhide HB)))
      have hix := fun W => bad_index k hlt W
      have HAK := hide (unhide HAT k hlt)
      have HPL := hide (fun W => place_in (badB k) (badAt.getD k 0) (by omega) hs2 W)
      have e1 : (FloatKind.f64.format.order (lineW (badB k) (badAt.getD k 0)) (lineW (badB k) (badAt.getD k 0)) == some .eq) = true := ord_line _ _ (by omega) hs2
      have e2 : (FloatKind.f64.format.order (colW (badB k) (badAt.getD k 0)) (colW (badB k) (badAt.getD k 0)) == some .eq) = true := ord_col _ _ (by omega) hs2
      generalize badB k = S at *
      generalize badAt.getD k 0 = M at *
      go_wp2_with fail
      refine (unhide RD).mono ?_
      rintro e w3 ⟨c1, n1, m1, c2, n2, m2, X, Y, E, rfl, H⟩
      obtain ⟨hk3, hno, -⟩ := unhide H
      obtain ⟨rfl, rfl, rfl, rfl, rfl, rfl, rfl, rfl, rfl⟩ := hno rfl
      have HB3 := hide ((unhide HB).then hk3)
      have hak : w3.cell? ⟨B, k, none⟩ = some (.int .i64 (M : Int)) := (unhide HB3).cellS (unhide HAK)
      have hz3 : B < w3.heap.size := by have := (unhide HB3).size; omega
      clear hk3 hno H HB
      go_wp2_with fail
      refine (unhide HPL _).mono ?_
      rintro e w4 ⟨rfl, rfl⟩
      go_wp2_with fail
      go_roundw
      case rel => exact ⟨k + 1, by go_num, by omega, (unhide HB3).al _⟩
      case measure => simp [intOf]; omega
    · have hki : ¬ (k : Int) < 18 := by omega
      obtain ⟨w5, hw5⟩ : ∃ W, W = wr := ⟨_, rfl⟩
      have HK5 : Hid (Kept W0 w5) := hide (by rw [hw5]; exact unhide HB)
      subst hw5
      clear HAT HB hBz
      go_wp2_with fail
      go_loop [12, 13] (fun s i => ∃ j : Nat, j ≤ 24 ∧ i = .int .i64 (j : Int) ∧ s = .string ⟨(manyL j).toArray⟩) (fun _ i => 24 - (intOf i).toNat)
      case atStart => exact ⟨0, Nat.zero_le _, rfl, rfl⟩
      case round =>
        obtain ⟨j, hj, rfl, rfl⟩ := hrel
        have hsz : (⟨(manyL j).toArray⟩ : ByteArray).size ≤ 200 := by rw [bsz, manyL_len]; omega
        by_cases hj24 : j < 24
        · have hji : (j : Int) < 24 := by omega
          have HAP : Hid ((⟨(manyL j).toArray⟩ : ByteArray) ++ ⟨#[118, 97, 114, 32, 120, 10]⟩ = ⟨(manyL (j + 1)).toArray⟩) := hide (by
            rw [show (⟨#[118, 97, 114, 32, 120, 10]⟩ : ByteArray) = ⟨[118, 97, 114, 32, 120, 10].toArray⟩ from rfl, ba_app, manyL_succ])
          generalize (⟨(manyL j).toArray⟩ : ByteArray) = S0 at *
          go_wp2_with fail
          go_round
          case rel => exact ⟨j + 1, by omega, by go_num, by rw [unhide HAP]⟩
          case measure => simp [intOf]; omega
        · have hji : ¬ (j : Int) < 24 := by omega
          obtain rfl : j = 24 := by omega
          obtain ⟨dF, tF, qF, hF⟩ := some_of outF
          obtain ⟨dH, tH, qH, hH⟩ := some_of outHi
          have a1 : (⟨(manyL 24).toArray⟩ : ByteArray) ++ ⟨#[103, 111, 123, 125]⟩ = ⟨(manyL 24 ++ [103, 111, 123, 125]).toArray⟩ := ba_app _ _
          have a2 : (⟨(manyL 24).toArray⟩ : ByteArray) ++ ⟨#[118, 97, 114, 32, 121, 32, 103, 111, 123, 125]⟩ = ⟨(manyL 24 ++ [118, 97, 114, 32, 121, 32, 103, 111, 123, 125]).toArray⟩ := ba_app _ _
          rw [← a1] at hF
          have hG := outG
          have lG := lineG
          have cG := colG
          rw [← a2] at hG lG cG
          have zF : ((⟨(manyL 24).toArray⟩ : ByteArray) ++ ⟨#[103, 111, 123, 125]⟩).size ≤ 1125899906842624 := by rw [a1, bsz, List.length_append, manyL_len]; decide
          have zG : ((⟨(manyL 24).toArray⟩ : ByteArray) ++ ⟨#[118, 97, 114, 32, 121, 32, 103, 111, 123, 125]⟩).size ≤ 1125899906842624 := by rw [a2, bsz, List.length_append, manyL_len]; decide
          have RF := hide (fun W (k : Kept w W) => unhide HRD _ zF _ _ hF W k)
          have RG := hide (fun W (k : Kept w W) => unhide HRD _ zG _ _ hG W k)
          have RH := hide (fun W (k : Kept w W) => unhide HRD _ (by decide +kernel) _ _ hH W k)
          have HLG := hide (And.intro lG cG)
          clear a1 a2 hF hG hH lG cG zF zG HRD
          generalize (⟨(manyL 24).toArray⟩ : ByteArray) = S0 at *
          have HW5 := hide ((unhide HKW).then (unhide HK5))
          go_wp2_with fail
          refine (unhide RF _ (unhide HW5)).mono ?_
          rintro e w6 ⟨c1, n1, m1, c2, n2, m2, X, Y, E, rfl, H⟩
          obtain ⟨hk6, -, hv⟩ := unhide H
          obtain ⟨rfl, rfl, rfl, -, -⟩ := hv _ _ rfl
          have HW6 := hide ((unhide HW5).then hk6)
          have HU6 := hide ((unhide HK5).then hk6)
          clear hk6 H hv
          go_wp2_with fail
          refine (unhide RG _ ((unhide HW6).al _)).mono ?_
          rintro e w7 ⟨c3, n3, m3, c4, n4, m4, X, Y, E, rfl, H⟩
          obtain ⟨hk7, hno, -⟩ := unhide H
          obtain ⟨rfl, rfl, rfl, rfl, rfl, rfl, rfl, rfl, rfl⟩ := hno rfl
          rw [(unhide HLG).1, (unhide HLG).2]
          have HW7 := hide (((unhide HW6).al _).then hk7)
          have HU7 := hide (((unhide HU6).al _).then hk7)
          clear hk7 H hno
          go_wp2_with fail
          refine (unhide RH _ ((unhide HW7).al _)).mono ?_
          rintro e w8 ⟨c5, n5, m5, c6, n6, m6, X, Y, E, rfl, H⟩
          obtain ⟨hk8, -, hv⟩ := unhide H
          obtain ⟨rfl, rfl, rfl, -, -⟩ := hv _ _ rfl
          have HW8 := hide (((unhide HW7).al _).then hk8)
          have HU8 := hide ((unhide HKW2).then (((unhide HU7).al _).then hk8))
          have hz8 := (unhide HU8).size
          obtain ⟨p0, p1, _⟩ := unhide HPP
          have p0 := (unhide HU8).cellS p0
          have p1 := (unhide HU8).cellS p1
          have pz8 : P < w8.heap.size := by omega
          obtain ⟨y1, y2, y3, y4, yE, yB, d0, d1, t0, t1, c0, c11, c22, c23, c26, c33, c35, c48, c55, ⟨a5, r5, c63⟩, c64, cE, c69, c74, cB, ⟨a6, r6, s8⟩, ⟨a7, r7, s9⟩⟩ := (unhide HLA2).kept (unhide HU8)
          have x1 : b1 < w8.heap.size := by omega
          have x2 : b2 < w8.heap.size := by omega
          have x3 : b3 < w8.heap.size := by omega
          have x4 : b4 < w8.heap.size := by omega
          have xE : bE < w8.heap.size := by omega
          have xB : bB < w8.heap.size := by omega
          have f1 : (Ieee.double.order 4607182418800017408 4607182418800017408 == some .eq) = true := eql_one
          have f2 : (Ieee.double.order 4611686018427387904 4611686018427387904 == some .eq) = true := by decide +kernel
          have f3 : (Ieee.double.order 4627730092099895296 4627730092099895296 == some .eq) = true := by decide +kernel
          clear hk8 H hv y1 y2 y3 y4 yE yB z1 z2 z3 z4 pz hz8
          go_wp2_with fail
          go_ret
          exact ⟨rfl, (unhide HW8).al _⟩
#print axioms parseKnown_row
end Go.Proofs.YteaopephdjoegaaDoor
