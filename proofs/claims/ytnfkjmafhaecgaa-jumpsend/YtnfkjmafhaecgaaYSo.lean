/- So -/
import Derived.Test.YtnfkjmafhaecgaaYSa

namespace Go.Proofs.Ytnfkjmafhaecgaa
open Go.RowKit
attribute [local go_sem] run_store_complex
def kwl : List (List UInt8) := [[108, 111, 99, 107], [117, 110, 108, 111, 99, 107], [103, 111, 116, 111], [108, 97, 98, 101, 108], [115, 101, 110, 100], [114, 101, 99, 118], [112, 114, 105, 110, 116], [105, 102], [114, 101, 112, 101, 97, 116]]
theorem kwl_sk : ∀ l ∈ kwl, Pp.sk l ≠ 1 := by decide
set_option maxRecDepth 100000 in
set_option maxHeartbeats 8000000 in
theorem rstmt_name (deep : Int) (blk : Pp.Pl → Pp.R (List St)) {R g cap : Nat} {s : ByteArray} {ts : List Lx.Tk} {a bad : Nat} {w : World} (h : Rq w R g cap ts a false bad) (hal : Pp.Alive (left ts a)) (hok : TkOk s ts) (o : Option St) (m : List Lx.Core) (h1k : (Px.hd (left ts a)).1 = 1) (hsk : Pp.sk (Px.hd (left ts a)).2.1 = 1) (hp : Pp.stmt (plOf s ts) (blk (plOf s ts)) (left ts a) = (o, m)) :
    Calls Try.prog 62 #[.pointer (some ⟨R, 0, none⟩), .string s, .int .i64 deep] w fun e w' => RedS R g cap ts bad w o m e w' := by
  have ha := alive_lt hal
  have HR : Hid (Rq w R g cap ts a false bad) := h
  have hRw := h.rlt
  have hgw := h.lt
  have c0 := h.c0
  have c1 := h.c1
  have z1 := h.z 1
  have hf := h.few
  have hwr : IntKind.i64.wrap ((a : Int) + 1) = (a : Int) + 1 := by rw [IntKind.wrap_i64]; omega
  have hhd := hd_in ts a ha
  rw [hhd] at h1k hsk
  replace hsk : Hid (Pp.sk ts[a].text = 1) := hsk
  replace h1k : Hid (ts[a].kind = 1) := h1k
  have hmem := List.getElem_mem ha
  have hw1 : ts[a].kind = 1 → Lx.isWord ts[a].text = true := hok.fit _ hmem
  have hkd : Hid (ts[a].kind = kindOf ts[a].text) := hok.kd _ hmem
  have HPL : Hid (∀ W, Calls Try.prog 50 #[.string s, .int .i64 (ts[a].at' : Int)] W fun e w' => e = .returned (.complex .f64 (lineW s ts[a].at') (colW s ts[a].at')) ∧ w' = W) := fun W => place_in s _ hok.sz (hok.at' _ hmem) W
  have hpl : plOf s ts (left ts a).length = (lineW s ts[a].at', colW s ts[a].at') := plOf_at s ts a ha
  obtain ⟨t0, t1, t2, t3⟩ := h.tok a ha
  have hai : (a : Int) < (ts.length : Int) := by omega
  have HA : Hid (a < ts.length) := ha
  have HAL : Hid (Pp.Alive (left ts a)) := hal
  have HOK : Hid (TkOk s ts) := hok
  have HHD : Hid _ := hhd
  have HPP : Hid _ := hpl
  unfold Pp.stmt at hp
  rw [hpl, hhd] at hp
  generalize lineW s ts[a].at' = X at *
  generalize colW s ts[a].at' = Y at *
  generalize ts[a].kind = kd at *
  generalize ts[a].text = tx at *
  generalize ts[a].n = nn at *
  generalize ts[a].at' = aa at *
  obtain ⟨N, hN⟩ : ∃ N, ts.length = N := ⟨_, rfl⟩
  have HN : Hid (ts.length = N) := hN
  rw [hN] at c0 hf hai
  clear h hal hok ha hN hmem hpl
  go_enter Try.func62, Try.ntmps62
  go_wp2_with fail
  go_region
  obtain ⟨W1, hW1⟩ : ∃ W1, ((sz w).alloc (.cells #[.int .i64 (kd : Int), .string (Px.ba tx), .int .i64 (nn : Int), .int .i64 (aa : Int)] 99)).drew = W1 := ⟨_, rfl⟩
  have hkw : Kept w (sz w) := (Kept.refl _).al _
  have hk1 : Kept (sz w) W1 := by rw [← hW1]; exact ((Kept.refl _).al _).dr
  have KW1 : Hid (Kept w W1) := hkw.then hk1
  have hbz : BoxS W1 w.heap.size (sv0 0 0).cells := (box_of (heap_alloc_new w _)).kept hk1
  have hbt : BoxS W1 (w.heap.size + 1) [.int .i64 (kd : Int), .string (Px.ba tx), .int .i64 (nn : Int), .int .i64 (aa : Int)] := by
    have h1 : BoxS ((sz w).alloc (.cells #[.int .i64 (kd : Int), .string (Px.ba tx), .int .i64 (nn : Int), .int .i64 (aa : Int)] 99)) (sz w).heap.size [.int .i64 (kd : Int), .string (Px.ba tx), .int .i64 (nn : Int), .int .i64 (aa : Int)] := box_of (heap_alloc_new (sz w) _)
    rw [show (sz w).heap.size = w.heap.size + 1 by simp] at h1
    rw [← hW1]
    exact h1.kept (Kept.refl _).dr
  have u3 : W1.cell? ⟨w.heap.size + 1, 3, none⟩ = some (.int .i64 (aa : Int)) := hbt.cell 3 rfl
  have hlt1 : w.heap.size + 1 < W1.heap.size := hbt.lt
  rw [hW1]
  clear hW1 hk1 hkw c0 t0 t1 t2 t3
  go_wp2_with fail
  refine (HPL.out _).mono ?_
  rintro e W1 ⟨rfl, rfl⟩
  obtain ⟨B8, hB8⟩ : ∃ B, W1.heap.size = B := ⟨_, rfl⟩
  obtain ⟨W2, hW2⟩ : ∃ W, W1.alloc (.cells #[.int .i64 0, .string ⟨#[]⟩, .string ⟨#[]⟩, .int .i64 0, .int .i64 0, .int .i64 0, .string ⟨#[]⟩, .slice none 0 0, .slice none 0 0, .slice none 0 0, .complex .f64 X Y] 46) = W := ⟨_, rfl⟩
  have hk2 : Kept W1 W2 := by rw [← hW2]; exact (Kept.refl _).al _
  have KW2 : Hid (Kept w W2) := KW1.out.then hk2
  have HQ2 : Hid (Rq W2 R g cap ts a false bad) := HR.out.kept KW2.out
  have hx : BoxS W2 B8 (⟨0, ⟨#[]⟩, ⟨#[]⟩, 0, 0, 0, ⟨#[]⟩, none, 0, 0, none, 0, 0, none, 0, 0, X, Y⟩ : Sv).cells := by rw [← hW2, ← hB8]; exact box_of (heap_alloc_new W1 _)
  have HXW2 : Hid (BoxS W2 B8 (⟨0, ⟨#[]⟩, ⟨#[]⟩, 0, 0, 0, ⟨#[]⟩, none, 0, 0, none, 0, 0, none, 0, 0, X, Y⟩ : Sv).cells) := hx
  have hzz : BoxS W2 w.heap.size (sv0 0 0).cells := hbz.kept hk2
  have HZW2 : Hid (BoxS W2 w.heap.size (sv0 0 0).cells) := hzz
  have x0 : W2.cell? ⟨B8, 0, none⟩ = some (.int .i64 (0)) := hx.cell 0 rfl
  have x1 : W2.cell? ⟨B8, 1, none⟩ = some (.string (⟨#[]⟩)) := hx.cell 1 rfl
  have x2 : W2.cell? ⟨B8, 2, none⟩ = some (.string (⟨#[]⟩)) := hx.cell 2 rfl
  have x3 : W2.cell? ⟨B8, 3, none⟩ = some (.int .i64 (0)) := hx.cell 3 rfl
  have x4 : W2.cell? ⟨B8, 4, none⟩ = some (.int .i64 (0)) := hx.cell 4 rfl
  have x5 : W2.cell? ⟨B8, 5, none⟩ = some (.int .i64 (0)) := hx.cell 5 rfl
  have x6 : W2.cell? ⟨B8, 6, none⟩ = some (.string (⟨#[]⟩)) := hx.cell 6 rfl
  have x7 : W2.cell? ⟨B8, 7, none⟩ = some (.slice none 0 0) := hx.cell 7 rfl
  have x8 : W2.cell? ⟨B8, 8, none⟩ = some (.slice none 0 0) := hx.cell 8 rfl
  have x9 : W2.cell? ⟨B8, 9, none⟩ = some (.slice none 0 0) := hx.cell 9 rfl
  have x10 : W2.cell? ⟨B8, 10, none⟩ = some (.complex .f64 X Y) := hx.cell 10 rfl
  have r0 : W2.cell? ⟨w.heap.size, 0, none⟩ = some (.int .i64 (0)) := hzz.cell 0 rfl
  have r1 : W2.cell? ⟨w.heap.size, 1, none⟩ = some (.string (⟨#[]⟩)) := hzz.cell 1 rfl
  have r2 : W2.cell? ⟨w.heap.size, 2, none⟩ = some (.string (⟨#[]⟩)) := hzz.cell 2 rfl
  have r3 : W2.cell? ⟨w.heap.size, 3, none⟩ = some (.int .i64 (0)) := hzz.cell 3 rfl
  have r4 : W2.cell? ⟨w.heap.size, 4, none⟩ = some (.int .i64 (0)) := hzz.cell 4 rfl
  have r5 : W2.cell? ⟨w.heap.size, 5, none⟩ = some (.int .i64 (0)) := hzz.cell 5 rfl
  have r6 : W2.cell? ⟨w.heap.size, 6, none⟩ = some (.string (⟨#[]⟩)) := hzz.cell 6 rfl
  have r7 : W2.cell? ⟨w.heap.size, 7, none⟩ = some (.slice none 0 0) := hzz.cell 7 rfl
  have r8 : W2.cell? ⟨w.heap.size, 8, none⟩ = some (.slice none 0 0) := hzz.cell 8 rfl
  have r9 : W2.cell? ⟨w.heap.size, 9, none⟩ = some (.slice none 0 0) := hzz.cell 9 rfl
  have r10 : W2.cell? ⟨w.heap.size, 10, none⟩ = some (.complex .f64 0 0) := hzz.cell 10 rfl
  have xf : ∀ j, W2.frozen? ⟨B8, j, none⟩ = false := hx.fz
  have rf : ∀ j, W2.frozen? ⟨w.heap.size, j, none⟩ = false := hzz.fz
  have xl : B8 < W2.heap.size := hx.lt
  have rl : w.heap.size < W2.heap.size := hzz.lt
  clear hx hzz
  have htk : BoxS W2 (w.heap.size + 1) [.int .i64 (kd : Int), .string (Px.ba tx), .int .i64 (nn : Int), .int .i64 (aa : Int)] := hbt.kept hk2
  have HTW2 : Hid (BoxS W2 (w.heap.size + 1) [.int .i64 (kd : Int), .string (Px.ba tx), .int .i64 (nn : Int), .int .i64 (aa : Int)]) := htk
  have u0 : W2.cell? ⟨w.heap.size + 1, 0, none⟩ = some (.int .i64 (kd : Int)) := htk.cell 0 rfl
  have u1 : W2.cell? ⟨w.heap.size + 1, 1, none⟩ = some (.string (Px.ba tx)) := htk.cell 1 rfl
  clear htk
  have hR2 := HQ2.out.rlt
  replace c1 := HQ2.out.c1
  replace z1 := HQ2.out.z 1
  have hBR : B8 ≠ R := by omega
  have hBg : B8 ≠ g := by omega
  have hBw : w.heap.size + 1 < B8 := by omega
  have hrR : w.heap.size ≠ R := by omega
  have htR : w.heap.size + 1 ≠ R := by omega
  have hrB : w.heap.size ≠ B8 := by omega
  have htB : w.heap.size + 1 ≠ B8 := by omega
  have HGW : Hid (g < w.heap.size) := hgw
  have LF : Hid (ts.length - (left ts a).length = a) := by show _ = _; rw [left_len]; have := HA.out; omega
  clear hbz hbt u3 hk2 hgw hlt1
  have h1 : kd = 1 := h1k.out
  have hw1' : Lx.isWord tx = true := hw1 h1
  have hal2 : Pp.Alive (left ts (a + 1)) := by
    have := HAL.out.tail (.inl (by rw [hhd, h1]; show (1 : Nat) ≠ 4; decide))
    rwa [left_tail] at this
  have HAL2 : Hid (Pp.Alive (left ts (a + 1))) := hal2
  have HA2 : Hid (a + 1 < ts.length) := alive_lt hal2
  obtain ⟨W3, hW3⟩ : ∃ W, W2.setCell ⟨R, 1, none⟩ (.int .i64 ((a : Int) + 1)) = W := ⟨_, rfl⟩
  have hq3 := HQ2.out.at' (a + 1) (Nat.le_of_lt HA2.out)
  rw [show ((a + 1 : Nat) : Int) = (a : Int) + 1 by omega, hW3] at hq3
  have HQW3 : Hid (Rq W3 R g cap ts (a + 1) false bad) := hq3
  have hb23 : But R W2 W3 := by rw [← hW3]; exact (But.refl _ _).set _ _
  have HBW3 : Hid (But R w W3) := (But.of KW2.out).then hb23
  have HXW3 : Hid (BoxS W3 B8 (⟨0, ⟨#[]⟩, ⟨#[]⟩, 0, 0, 0, ⟨#[]⟩, none, 0, 0, none, 0, 0, none, 0, 0, X, Y⟩ : Sv).cells) := HXW2.out.but hb23 hBR
  have HZW3 : Hid (BoxS W3 w.heap.size (sv0 0 0).cells) := HZW2.out.but hb23 hrR
  have HTW3 : Hid (BoxS W3 (w.heap.size + 1) [.int .i64 (kd : Int), .string (Px.ba tx), .int .i64 (nn : Int), .int .i64 (aa : Int)]) := HTW2.out.but hb23 htR
  subst h1
  clear hq3 hb23 hal2 hw1 x0 x1 x2 x3 x4 x5 x6 x7 x8 x9 x10 r0 r1 r2 r3 r4 r5 r6 r7 r8 r9 r10 xf rf xl rl
  have hskn : ∀ l ∈ kwl, tx ≠ l := fun l hl hc => by
    have h := hsk.out
    rw [hc] at h
    exact kwl_sk l hl h
  have hp2 : Pp.assign (X, Y) (left ts a) = (o, m) := by
    rw [if_pos hsk.out] at hp
    exact hp
  unfold Pp.assign at hp2
  have hRB : R < B8 := by omega
  have e0 : ((Px.ba tx).toList == [108, 111, 99, 107]) = false := by rw [show (Px.ba tx).toList = (⟨tx.toArray⟩ : ByteArray).toList from rfl]; exact tl_no (hskn _ (by decide))
  have e1 : ((Px.ba tx).toList == [117, 110, 108, 111, 99, 107]) = false := by rw [show (Px.ba tx).toList = (⟨tx.toArray⟩ : ByteArray).toList from rfl]; exact tl_no (hskn _ (by decide))
  have e2 : ((Px.ba tx).toList == [103, 111, 116, 111]) = false := by rw [show (Px.ba tx).toList = (⟨tx.toArray⟩ : ByteArray).toList from rfl]; exact tl_no (hskn _ (by decide))
  have e3 : ((Px.ba tx).toList == [108, 97, 98, 101, 108]) = false := by rw [show (Px.ba tx).toList = (⟨tx.toArray⟩ : ByteArray).toList from rfl]; exact tl_no (hskn _ (by decide))
  have e4 : ((Px.ba tx).toList == [115, 101, 110, 100]) = false := by rw [show (Px.ba tx).toList = (⟨tx.toArray⟩ : ByteArray).toList from rfl]; exact tl_no (hskn _ (by decide))
  have e5 : ((Px.ba tx).toList == [114, 101, 99, 118]) = false := by rw [show (Px.ba tx).toList = (⟨tx.toArray⟩ : ByteArray).toList from rfl]; exact tl_no (hskn _ (by decide))
  have e6 : ((Px.ba tx).toList == [112, 114, 105, 110, 116]) = false := by rw [show (Px.ba tx).toList = (⟨tx.toArray⟩ : ByteArray).toList from rfl]; exact tl_no (hskn _ (by decide))
  have e7 : ((Px.ba tx).toList == [105, 102]) = false := by rw [show (Px.ba tx).toList = (⟨tx.toArray⟩ : ByteArray).toList from rfl]; exact tl_no (hskn _ (by decide))
  have e8 : ((Px.ba tx).toList == [114, 101, 112, 101, 97, 116]) = false := by rw [show (Px.ba tx).toList = (⟨tx.toArray⟩ : ByteArray).toList from rfl]; exact tl_no (hskn _ (by decide))
  have hfitw : Lx.isWord tx = true := hw1'
  clear hskn hp hkd
  cases hkw : kw (Px.ba tx) with
  | true =>
    have HKW : Hid (∀ W, Calls Try.prog 59 #[.string (Px.ba tx)] W fun e w' => e = .returned (.bool true) ∧ w' = W) := fun W => refKeyword_any _ _ hkw W
    rw [bind_name_no (by rw [hhd]; show Px.isNm tx = false; rw [isNm_kw, hkw]; simp)] at hp2
    simp only [Prod.mk.injEq] at hp2
    obtain ⟨hO1, hO2⟩ := hp2
    subst hO1 hO2
    clear hhd hkw hfitw
    have FA : Hid _ := failAt_any HQW3.out a
    have c1w := HQW3.out.c1
    have c1w : W3.cell? ⟨R, 1, none⟩ = some (.int .i64 ((a : Int) + 1)) := by rw [show ((a : Int) + 1) = ((a + 1 : Nat) : Int) by omega]; exact HQW3.out.c1
    have hRw3 := HQW3.out.rlt
    have hwr2 : IntKind.i64.wrap ((a : Int) + 1 - 1) = (a : Int) := by rw [IntKind.wrap_i64]; omega
    generalize Px.ba tx = TX at *
    replace u1 : W3.cell? ⟨w.heap.size + 1, 1, none⟩ = some (.string TX) := HTW3.out.cell 1 rfl
    go_wp2_with fail
    refine (HKW.out _).mono ?_
    rintro e W3 ⟨rfl, rfl⟩
    go_wp2_with fail
    refine Calls.mono FA.out ?_
    rintro e w4 ⟨⟨v, rfl⟩, hbn, hz⟩
    have HQw4 : Hid (Rq w4 R g cap ts (a + 1) true a) := hz
    have HXw4 : Hid (BoxS w4 B8 (⟨0, ⟨#[]⟩, ⟨#[]⟩, 0, 0, 0, ⟨#[]⟩, none, 0, 0, none, 0, 0, none, 0, 0, X, Y⟩ : Sv).cells) := HXW3.out.but hbn hBR
    have HZw4 : Hid (BoxS w4 w.heap.size (sv0 0 0).cells) := HZW3.out.but hbn hrR
    have HBw4 : Hid (But R w w4) := HBW3.out.then hbn
    have HTw4 : Hid (BoxS w4 (w.heap.size + 1) [.int .i64 ((1 : Nat) : Int), .string TX, .int .i64 (nn : Int), .int .i64 (aa : Int)]) := HTW3.out.but hbn htR
    clear hbn
    clear hz
    have x0_w4 : w4.cell? ⟨B8, 0, none⟩ = some (.int .i64 (0)) := HXw4.out.cell 0 rfl
    have x1_w4 : w4.cell? ⟨B8, 1, none⟩ = some (.string (⟨#[]⟩)) := HXw4.out.cell 1 rfl
    have x2_w4 : w4.cell? ⟨B8, 2, none⟩ = some (.string (⟨#[]⟩)) := HXw4.out.cell 2 rfl
    have x3_w4 : w4.cell? ⟨B8, 3, none⟩ = some (.int .i64 (0)) := HXw4.out.cell 3 rfl
    have x4_w4 : w4.cell? ⟨B8, 4, none⟩ = some (.int .i64 (0)) := HXw4.out.cell 4 rfl
    have x5_w4 : w4.cell? ⟨B8, 5, none⟩ = some (.int .i64 (0)) := HXw4.out.cell 5 rfl
    have x6_w4 : w4.cell? ⟨B8, 6, none⟩ = some (.string (⟨#[]⟩)) := HXw4.out.cell 6 rfl
    have x7_w4 : w4.cell? ⟨B8, 7, none⟩ = some (.slice none 0 0) := HXw4.out.cell 7 rfl
    have x8_w4 : w4.cell? ⟨B8, 8, none⟩ = some (.slice none 0 0) := HXw4.out.cell 8 rfl
    have x9_w4 : w4.cell? ⟨B8, 9, none⟩ = some (.slice none 0 0) := HXw4.out.cell 9 rfl
    have x10_w4 : w4.cell? ⟨B8, 10, none⟩ = some (.complex .f64 X Y) := HXw4.out.cell 10 rfl
    have r0_w4 : w4.cell? ⟨w.heap.size, 0, none⟩ = some (.int .i64 (0)) := HZw4.out.cell 0 rfl
    have r1_w4 : w4.cell? ⟨w.heap.size, 1, none⟩ = some (.string (⟨#[]⟩)) := HZw4.out.cell 1 rfl
    have r2_w4 : w4.cell? ⟨w.heap.size, 2, none⟩ = some (.string (⟨#[]⟩)) := HZw4.out.cell 2 rfl
    have r3_w4 : w4.cell? ⟨w.heap.size, 3, none⟩ = some (.int .i64 (0)) := HZw4.out.cell 3 rfl
    have r4_w4 : w4.cell? ⟨w.heap.size, 4, none⟩ = some (.int .i64 (0)) := HZw4.out.cell 4 rfl
    have r5_w4 : w4.cell? ⟨w.heap.size, 5, none⟩ = some (.int .i64 (0)) := HZw4.out.cell 5 rfl
    have r6_w4 : w4.cell? ⟨w.heap.size, 6, none⟩ = some (.string (⟨#[]⟩)) := HZw4.out.cell 6 rfl
    have r7_w4 : w4.cell? ⟨w.heap.size, 7, none⟩ = some (.slice none 0 0) := HZw4.out.cell 7 rfl
    have r8_w4 : w4.cell? ⟨w.heap.size, 8, none⟩ = some (.slice none 0 0) := HZw4.out.cell 8 rfl
    have r9_w4 : w4.cell? ⟨w.heap.size, 9, none⟩ = some (.slice none 0 0) := HZw4.out.cell 9 rfl
    have r10_w4 : w4.cell? ⟨w.heap.size, 10, none⟩ = some (.complex .f64 0 0) := HZw4.out.cell 10 rfl
    have xf_w4 : ∀ j, w4.frozen? ⟨B8, j, none⟩ = false := HXw4.out.fz
    have rf_w4 : ∀ j, w4.frozen? ⟨w.heap.size, j, none⟩ = false := HZw4.out.fz
    have xl_w4 : B8 < w4.heap.size := HXw4.out.lt
    have rl_w4 : w.heap.size < w4.heap.size := HZw4.out.lt
    go_wp2_with fail
    refine reds_end (⟨0, ⟨#[]⟩, ⟨#[]⟩, 0, 0, 0, ⟨#[]⟩, none, 0, 0, none, 0, 0, none, 0, 0, X, Y⟩ : Sv) rfl HZw4.out HBw4.out hRw HGW.out ?hsome (fun _ => ⟨a + 1, HA2.out, ?_⟩)
    case hsome => exact fun x hx => by cases hx
    rw [LF.out]
    exact HQw4.out
  | false =>
    have HKW : Hid (∀ W, Calls Try.prog 59 #[.string (Px.ba tx)] W fun e w' => e = .returned (.bool false) ∧ w' = W) := fun W => refKeyword_any _ _ hkw W
    rw [bind_name_yes (by rw [hhd]; unfold isNmT; show (1 == 1 && Px.isNm tx) = true; rw [isNm_kw, hkw, hfitw]; rfl), left_tail, hhd] at hp2
    have HPO0 : Hid _ := hp2
    clear hhd hkw hfitw hp2
    obtain ⟨TX, hTX⟩ : ∃ TX, Px.ba tx = TX := ⟨_, rfl⟩
    have HTX : Hid (TX = Px.ba tx) := hTX.symm
    rw [hTX] at HKW e0 e1 e2 e3 e4 e5 e6 e7 e8 HTW3
    clear hTX u1
    have u1 : W3.cell? ⟨w.heap.size + 1, 1, none⟩ = some (.string TX) := HTW3.out.cell 1 rfl
    go_wp2_with fail
    refine (HKW.out _).mono ?_
    rintro e W3 ⟨rfl, rfl⟩
    have x0_W3 : W3.cell? ⟨B8, 0, none⟩ = some (.int .i64 (0)) := HXW3.out.cell 0 rfl
    have x1_W3 : W3.cell? ⟨B8, 1, none⟩ = some (.string (⟨#[]⟩)) := HXW3.out.cell 1 rfl
    have x2_W3 : W3.cell? ⟨B8, 2, none⟩ = some (.string (⟨#[]⟩)) := HXW3.out.cell 2 rfl
    have x3_W3 : W3.cell? ⟨B8, 3, none⟩ = some (.int .i64 (0)) := HXW3.out.cell 3 rfl
    have x4_W3 : W3.cell? ⟨B8, 4, none⟩ = some (.int .i64 (0)) := HXW3.out.cell 4 rfl
    have x5_W3 : W3.cell? ⟨B8, 5, none⟩ = some (.int .i64 (0)) := HXW3.out.cell 5 rfl
    have x6_W3 : W3.cell? ⟨B8, 6, none⟩ = some (.string (⟨#[]⟩)) := HXW3.out.cell 6 rfl
    have x7_W3 : W3.cell? ⟨B8, 7, none⟩ = some (.slice none 0 0) := HXW3.out.cell 7 rfl
    have x8_W3 : W3.cell? ⟨B8, 8, none⟩ = some (.slice none 0 0) := HXW3.out.cell 8 rfl
    have x9_W3 : W3.cell? ⟨B8, 9, none⟩ = some (.slice none 0 0) := HXW3.out.cell 9 rfl
    have x10_W3 : W3.cell? ⟨B8, 10, none⟩ = some (.complex .f64 X Y) := HXW3.out.cell 10 rfl
    have r0_W3 : W3.cell? ⟨w.heap.size, 0, none⟩ = some (.int .i64 (0)) := HZW3.out.cell 0 rfl
    have r1_W3 : W3.cell? ⟨w.heap.size, 1, none⟩ = some (.string (⟨#[]⟩)) := HZW3.out.cell 1 rfl
    have r2_W3 : W3.cell? ⟨w.heap.size, 2, none⟩ = some (.string (⟨#[]⟩)) := HZW3.out.cell 2 rfl
    have r3_W3 : W3.cell? ⟨w.heap.size, 3, none⟩ = some (.int .i64 (0)) := HZW3.out.cell 3 rfl
    have r4_W3 : W3.cell? ⟨w.heap.size, 4, none⟩ = some (.int .i64 (0)) := HZW3.out.cell 4 rfl
    have r5_W3 : W3.cell? ⟨w.heap.size, 5, none⟩ = some (.int .i64 (0)) := HZW3.out.cell 5 rfl
    have r6_W3 : W3.cell? ⟨w.heap.size, 6, none⟩ = some (.string (⟨#[]⟩)) := HZW3.out.cell 6 rfl
    have r7_W3 : W3.cell? ⟨w.heap.size, 7, none⟩ = some (.slice none 0 0) := HZW3.out.cell 7 rfl
    have r8_W3 : W3.cell? ⟨w.heap.size, 8, none⟩ = some (.slice none 0 0) := HZW3.out.cell 8 rfl
    have r9_W3 : W3.cell? ⟨w.heap.size, 9, none⟩ = some (.slice none 0 0) := HZW3.out.cell 9 rfl
    have r10_W3 : W3.cell? ⟨w.heap.size, 10, none⟩ = some (.complex .f64 0 0) := HZW3.out.cell 10 rfl
    have xf_W3 : ∀ j, W3.frozen? ⟨B8, j, none⟩ = false := HXW3.out.fz
    have rf_W3 : ∀ j, W3.frozen? ⟨w.heap.size, j, none⟩ = false := HZW3.out.fz
    have xl_W3 : B8 < W3.heap.size := HXW3.out.lt
    have rl_W3 : w.heap.size < W3.heap.size := HZW3.out.lt
    obtain ⟨V211, hV211⟩ : ∃ W, ((W3).setCell ⟨B8, 0, none⟩ (.int .i64 1)).setCell ⟨B8, 1, none⟩ (.string TX) = W := ⟨_, rfl⟩
    have HXV211 : Hid (BoxS V211 B8 (⟨1, TX, ⟨#[]⟩, 0, 0, 0, ⟨#[]⟩, none, 0, 0, none, 0, 0, none, 0, 0, X, Y⟩ : Sv).cells) := by rw [← hV211]; exact ((((HXW3.out).setv 0 [.int .i64 1] (⟨1, ⟨#[]⟩, ⟨#[]⟩, 0, 0, 0, ⟨#[]⟩, none, 0, 0, none, 0, 0, none, 0, 0, X, Y⟩ : Sv).cells (by show 0 + 1 ≤ 11; decide) rfl)).setv 1 [.string TX] (⟨1, TX, ⟨#[]⟩, 0, 0, 0, ⟨#[]⟩, none, 0, 0, none, 0, 0, none, 0, 0, X, Y⟩ : Sv).cells (by show 1 + 1 ≤ 11; decide) rfl)
    have HZV211 : Hid (BoxS V211 w.heap.size (sv0 0 0).cells) := by rw [← hV211]; exact ((((HZW3.out).apart hrB 0 [.int .i64 1])).apart hrB 1 [.string TX])
    have HBV211 : Hid (But R w V211) := by rw [← hV211]; exact ((((HBW3.out).sets (B := B8) (by omega) 0 [.int .i64 1])).sets (B := B8) (by omega) 1 [.string TX])
    have HTV211 : Hid (BoxS V211 (w.heap.size + 1) [.int .i64 ((1 : Nat) : Int), .string TX, .int .i64 (nn : Int), .int .i64 (aa : Int)]) := by rw [← hV211]; exact ((((HTW3.out).apart htB 0 [.int .i64 1])).apart htB 1 [.string TX])
    have uV211 : V211.cell? ⟨w.heap.size + 1, 1, none⟩ = some (.string TX) := HTV211.out.cell 1 rfl
    have HQV211 : Hid (Rq V211 R g cap ts (a + 1) false bad) := by rw [← hV211]; exact ((((HQW3.out).sets hBR hBg 0 [.int .i64 1])).sets hBR hBg 1 [.string TX])
    cases hnm : Px.isSg [61] (Px.hd (left ts (a + 1))) with
    | true =>
      have H212 : Hid (Px.isSg [61] (Px.hd (left ts (a + 1))) = true) := hnm
      have NM : Hid _ := rmust_any HQV211.out HA2.out ⟨#[61]⟩ true (by show (!false && Px.isSg [61] (Px.hd (left ts (a + 1)))) = true; rw [hnm]; rfl)
      go_wp2_with fail
      refine Calls.mono NM.out ?_
      rintro e w216 ⟨⟨v, rfl⟩, hbn, hz⟩
      clear NM
      have HXw216 : Hid (BoxS w216 B8 (⟨1, TX, ⟨#[]⟩, 0, 0, 0, ⟨#[]⟩, none, 0, 0, none, 0, 0, none, 0, 0, X, Y⟩ : Sv).cells) := HXV211.out.but hbn hBR
      have HZw216 : Hid (BoxS w216 w.heap.size (sv0 0 0).cells) := HZV211.out.but hbn hrR
      have HBw216 : Hid (But R w w216) := HBV211.out.then hbn
      have HTw216 : Hid (BoxS w216 (w.heap.size + 1) [.int .i64 ((1 : Nat) : Int), .string TX, .int .i64 (nn : Int), .int .i64 (aa : Int)]) := HTV211.out.but hbn htR
      have HQw216 : Hid (Rq w216 R g cap ts ((a + 1) + 1) false bad) := Rz_yes hz
      clear hbn
      have HAL213 : Hid (Pp.Alive (left ts ((a + 1) + 1))) := alive_next HAL2.out (sg_kind H212.out)
      have HLT214 : Hid ((a + 1) + 1 < ts.length) := alive_lt HAL213.out
      have hP := HPO0.out
      rw [bind_skip_yes (by have := sg_text HOK.out HA2.out (x := Pp.tIs) (by decide); rw [H212.out] at this; exact of_decide_eq_true this.symm), left_tail] at hP
      have HPO215 : Hid _ := hP
      clear hz hnm hP
      clear x0_W3 x1_W3 x2_W3 x3_W3 x4_W3 x5_W3 x6_W3 x7_W3 x8_W3 x9_W3 x10_W3 r0_W3 r1_W3 r2_W3 r3_W3 r4_W3 r5_W3 r6_W3 r7_W3 r8_W3 r9_W3 r10_W3 xf_W3 rf_W3 xl_W3 rl_W3
      have x0_w216 : w216.cell? ⟨B8, 0, none⟩ = some (.int .i64 (1)) := HXw216.out.cell 0 rfl
      have x1_w216 : w216.cell? ⟨B8, 1, none⟩ = some (.string (TX)) := HXw216.out.cell 1 rfl
      have x2_w216 : w216.cell? ⟨B8, 2, none⟩ = some (.string (⟨#[]⟩)) := HXw216.out.cell 2 rfl
      have x3_w216 : w216.cell? ⟨B8, 3, none⟩ = some (.int .i64 (0)) := HXw216.out.cell 3 rfl
      have x4_w216 : w216.cell? ⟨B8, 4, none⟩ = some (.int .i64 (0)) := HXw216.out.cell 4 rfl
      have x5_w216 : w216.cell? ⟨B8, 5, none⟩ = some (.int .i64 (0)) := HXw216.out.cell 5 rfl
      have x6_w216 : w216.cell? ⟨B8, 6, none⟩ = some (.string (⟨#[]⟩)) := HXw216.out.cell 6 rfl
      have x7_w216 : w216.cell? ⟨B8, 7, none⟩ = some (.slice none 0 0) := HXw216.out.cell 7 rfl
      have x8_w216 : w216.cell? ⟨B8, 8, none⟩ = some (.slice none 0 0) := HXw216.out.cell 8 rfl
      have x9_w216 : w216.cell? ⟨B8, 9, none⟩ = some (.slice none 0 0) := HXw216.out.cell 9 rfl
      have x10_w216 : w216.cell? ⟨B8, 10, none⟩ = some (.complex .f64 X Y) := HXw216.out.cell 10 rfl
      have r0_w216 : w216.cell? ⟨w.heap.size, 0, none⟩ = some (.int .i64 (0)) := HZw216.out.cell 0 rfl
      have r1_w216 : w216.cell? ⟨w.heap.size, 1, none⟩ = some (.string (⟨#[]⟩)) := HZw216.out.cell 1 rfl
      have r2_w216 : w216.cell? ⟨w.heap.size, 2, none⟩ = some (.string (⟨#[]⟩)) := HZw216.out.cell 2 rfl
      have r3_w216 : w216.cell? ⟨w.heap.size, 3, none⟩ = some (.int .i64 (0)) := HZw216.out.cell 3 rfl
      have r4_w216 : w216.cell? ⟨w.heap.size, 4, none⟩ = some (.int .i64 (0)) := HZw216.out.cell 4 rfl
      have r5_w216 : w216.cell? ⟨w.heap.size, 5, none⟩ = some (.int .i64 (0)) := HZw216.out.cell 5 rfl
      have r6_w216 : w216.cell? ⟨w.heap.size, 6, none⟩ = some (.string (⟨#[]⟩)) := HZw216.out.cell 6 rfl
      have r7_w216 : w216.cell? ⟨w.heap.size, 7, none⟩ = some (.slice none 0 0) := HZw216.out.cell 7 rfl
      have r8_w216 : w216.cell? ⟨w.heap.size, 8, none⟩ = some (.slice none 0 0) := HZw216.out.cell 8 rfl
      have r9_w216 : w216.cell? ⟨w.heap.size, 9, none⟩ = some (.slice none 0 0) := HZw216.out.cell 9 rfl
      have r10_w216 : w216.cell? ⟨w.heap.size, 10, none⟩ = some (.complex .f64 0 0) := HZw216.out.cell 10 rfl
      have xf_w216 : ∀ j, w216.frozen? ⟨B8, j, none⟩ = false := HXw216.out.fz
      have rf_w216 : ∀ j, w216.frozen? ⟨w.heap.size, j, none⟩ = false := HZw216.out.fz
      have xl_w216 : B8 < w216.heap.size := HXw216.out.lt
      have rl_w216 : w.heap.size < w216.heap.size := HZw216.out.lt
      obtain ⟨o217, m218, hp219⟩ : ∃ o1 m1, Px.read (left ts ((a + 1) + 1)) = (o1, m1) := ⟨_, _, rfl⟩
      have HP228 : Hid (Px.read (left ts ((a + 1) + 1)) = (o217, m218)) := hp219
      have NM : Hid _ := rwhole_any HQw216.out HAL213.out HOK.out.fit s o217 m218 hp219
      have HSF229 : Hid (left ts (ts.length - m218.length) = m218 ∧ Pp.Alive m218) := by
        have h1 := Pp.read_keeps (left ts ((a + 1) + 1)) HAL213.out
        rw [hp219] at h1
        exact ⟨suf_left h1.1, h1.2⟩
      clear hp219
      go_wp2_with fail
      refine Calls.mono NM.out ?_
      rintro e w220 ⟨k221, n222, sx223, ax224, lx225, qx226, rfl, H227⟩
      have hbn := H227.out.1
      clear NM
      cases o217 with
      | none =>
        obtain ⟨fa237, hfa, hq⟩ := H227.out.2.2 rfl
        have HFA238 : Hid (fa237 < ts.length) := hfa
        have HXw220 : Hid (BoxS w220 B8 (⟨1, TX, ⟨#[]⟩, 0, 0, 0, ⟨#[]⟩, none, 0, 0, none, 0, 0, none, 0, 0, X, Y⟩ : Sv).cells) := HXw216.out.but hbn hBR
        have HZw220 : Hid (BoxS w220 w.heap.size (sv0 0 0).cells) := HZw216.out.but hbn hrR
        have HBw220 : Hid (But R w w220) := HBw216.out.then hbn
        have HTw220 : Hid (BoxS w220 (w.heap.size + 1) [.int .i64 ((1 : Nat) : Int), .string TX, .int .i64 (nn : Int), .int .i64 (aa : Int)]) := HTw216.out.but hbn htR
        have HQw220 : Hid (Rq w220 R g cap ts fa237 true (ts.length - m218.length)) := hq
        clear hbn
        have hP := HPO215.out
        rw [Pp.bind_none HP228.out] at hP
        simp only [Prod.mk.injEq] at hP
        have HPO239 : Hid (o = none ∧ m = m218) := ⟨hP.1.symm, hP.2.symm⟩
        clear hfa hq hP
        clear x0_w216 x1_w216 x2_w216 x3_w216 x4_w216 x5_w216 x6_w216 x7_w216 x8_w216 x9_w216 x10_w216 r0_w216 r1_w216 r2_w216 r3_w216 r4_w216 r5_w216 r6_w216 r7_w216 r8_w216 r9_w216 r10_w216 xf_w216 rf_w216 xl_w216 rl_w216
        have x0_w220 : w220.cell? ⟨B8, 0, none⟩ = some (.int .i64 (1)) := HXw220.out.cell 0 rfl
        have x1_w220 : w220.cell? ⟨B8, 1, none⟩ = some (.string (TX)) := HXw220.out.cell 1 rfl
        have x2_w220 : w220.cell? ⟨B8, 2, none⟩ = some (.string (⟨#[]⟩)) := HXw220.out.cell 2 rfl
        have x3_w220 : w220.cell? ⟨B8, 3, none⟩ = some (.int .i64 (0)) := HXw220.out.cell 3 rfl
        have x4_w220 : w220.cell? ⟨B8, 4, none⟩ = some (.int .i64 (0)) := HXw220.out.cell 4 rfl
        have x5_w220 : w220.cell? ⟨B8, 5, none⟩ = some (.int .i64 (0)) := HXw220.out.cell 5 rfl
        have x6_w220 : w220.cell? ⟨B8, 6, none⟩ = some (.string (⟨#[]⟩)) := HXw220.out.cell 6 rfl
        have x7_w220 : w220.cell? ⟨B8, 7, none⟩ = some (.slice none 0 0) := HXw220.out.cell 7 rfl
        have x8_w220 : w220.cell? ⟨B8, 8, none⟩ = some (.slice none 0 0) := HXw220.out.cell 8 rfl
        have x9_w220 : w220.cell? ⟨B8, 9, none⟩ = some (.slice none 0 0) := HXw220.out.cell 9 rfl
        have x10_w220 : w220.cell? ⟨B8, 10, none⟩ = some (.complex .f64 X Y) := HXw220.out.cell 10 rfl
        have r0_w220 : w220.cell? ⟨w.heap.size, 0, none⟩ = some (.int .i64 (0)) := HZw220.out.cell 0 rfl
        have r1_w220 : w220.cell? ⟨w.heap.size, 1, none⟩ = some (.string (⟨#[]⟩)) := HZw220.out.cell 1 rfl
        have r2_w220 : w220.cell? ⟨w.heap.size, 2, none⟩ = some (.string (⟨#[]⟩)) := HZw220.out.cell 2 rfl
        have r3_w220 : w220.cell? ⟨w.heap.size, 3, none⟩ = some (.int .i64 (0)) := HZw220.out.cell 3 rfl
        have r4_w220 : w220.cell? ⟨w.heap.size, 4, none⟩ = some (.int .i64 (0)) := HZw220.out.cell 4 rfl
        have r5_w220 : w220.cell? ⟨w.heap.size, 5, none⟩ = some (.int .i64 (0)) := HZw220.out.cell 5 rfl
        have r6_w220 : w220.cell? ⟨w.heap.size, 6, none⟩ = some (.string (⟨#[]⟩)) := HZw220.out.cell 6 rfl
        have r7_w220 : w220.cell? ⟨w.heap.size, 7, none⟩ = some (.slice none 0 0) := HZw220.out.cell 7 rfl
        have r8_w220 : w220.cell? ⟨w.heap.size, 8, none⟩ = some (.slice none 0 0) := HZw220.out.cell 8 rfl
        have r9_w220 : w220.cell? ⟨w.heap.size, 9, none⟩ = some (.slice none 0 0) := HZw220.out.cell 9 rfl
        have r10_w220 : w220.cell? ⟨w.heap.size, 10, none⟩ = some (.complex .f64 0 0) := HZw220.out.cell 10 rfl
        have xf_w220 : ∀ j, w220.frozen? ⟨B8, j, none⟩ = false := HXw220.out.fz
        have rf_w220 : ∀ j, w220.frozen? ⟨w.heap.size, j, none⟩ = false := HZw220.out.fz
        have xl_w220 : B8 < w220.heap.size := HXw220.out.lt
        have rl_w220 : w.heap.size < w220.heap.size := HZw220.out.lt
        obtain ⟨V240, hV240⟩ : ∃ W, ((((w220).setCell ⟨B8, 4, none⟩ (.int .i64 k221)).setCell ⟨B8, 5, none⟩ (.int .i64 n222)).setCell ⟨B8, 6, none⟩ (.string sx223)).setCell ⟨B8, 7, none⟩ (.slice ax224 lx225 qx226) = W := ⟨_, rfl⟩
        have HXV240 : Hid (BoxS V240 B8 (⟨1, TX, ⟨#[]⟩, 0, k221, n222, sx223, ax224, lx225, qx226, none, 0, 0, none, 0, 0, X, Y⟩ : Sv).cells) := by rw [← hV240]; exact ((HXw220.out).setv 4 [.int .i64 k221, .int .i64 n222, .string sx223, .slice ax224 lx225 qx226] (⟨1, TX, ⟨#[]⟩, 0, k221, n222, sx223, ax224, lx225, qx226, none, 0, 0, none, 0, 0, X, Y⟩ : Sv).cells (by show 4 + 4 ≤ 11; decide) rfl)
        have HZV240 : Hid (BoxS V240 w.heap.size (sv0 0 0).cells) := by rw [← hV240]; exact ((HZw220.out).apart hrB 4 [.int .i64 k221, .int .i64 n222, .string sx223, .slice ax224 lx225 qx226])
        have HBV240 : Hid (But R w V240) := by rw [← hV240]; exact ((HBw220.out).sets (B := B8) (by omega) 4 [.int .i64 k221, .int .i64 n222, .string sx223, .slice ax224 lx225 qx226])
        have HTV240 : Hid (BoxS V240 (w.heap.size + 1) [.int .i64 ((1 : Nat) : Int), .string TX, .int .i64 (nn : Int), .int .i64 (aa : Int)]) := by rw [← hV240]; exact ((HTw220.out).apart htB 4 [.int .i64 k221, .int .i64 n222, .string sx223, .slice ax224 lx225 qx226])
        have uV240 : V240.cell? ⟨w.heap.size + 1, 1, none⟩ = some (.string TX) := HTV240.out.cell 1 rfl
        have HQV240 : Hid (Rq V240 R g cap ts fa237 true (ts.length - m218.length)) := by rw [← hV240]; exact ((HQw220.out).sets hBR hBg 4 [.int .i64 k221, .int .i64 n222, .string sx223, .slice ax224 lx225 qx226])
        have x0_V240 : V240.cell? ⟨B8, 0, none⟩ = some (.int .i64 (1)) := HXV240.out.cell 0 rfl
        have x1_V240 : V240.cell? ⟨B8, 1, none⟩ = some (.string (TX)) := HXV240.out.cell 1 rfl
        have x2_V240 : V240.cell? ⟨B8, 2, none⟩ = some (.string (⟨#[]⟩)) := HXV240.out.cell 2 rfl
        have x3_V240 : V240.cell? ⟨B8, 3, none⟩ = some (.int .i64 (0)) := HXV240.out.cell 3 rfl
        have x4_V240 : V240.cell? ⟨B8, 4, none⟩ = some (.int .i64 (k221)) := HXV240.out.cell 4 rfl
        have x5_V240 : V240.cell? ⟨B8, 5, none⟩ = some (.int .i64 (n222)) := HXV240.out.cell 5 rfl
        have x6_V240 : V240.cell? ⟨B8, 6, none⟩ = some (.string (sx223)) := HXV240.out.cell 6 rfl
        have x7_V240 : V240.cell? ⟨B8, 7, none⟩ = some (.slice ax224 lx225 qx226) := HXV240.out.cell 7 rfl
        have x8_V240 : V240.cell? ⟨B8, 8, none⟩ = some (.slice none 0 0) := HXV240.out.cell 8 rfl
        have x9_V240 : V240.cell? ⟨B8, 9, none⟩ = some (.slice none 0 0) := HXV240.out.cell 9 rfl
        have x10_V240 : V240.cell? ⟨B8, 10, none⟩ = some (.complex .f64 X Y) := HXV240.out.cell 10 rfl
        have r0_V240 : V240.cell? ⟨w.heap.size, 0, none⟩ = some (.int .i64 (0)) := HZV240.out.cell 0 rfl
        have r1_V240 : V240.cell? ⟨w.heap.size, 1, none⟩ = some (.string (⟨#[]⟩)) := HZV240.out.cell 1 rfl
        have r2_V240 : V240.cell? ⟨w.heap.size, 2, none⟩ = some (.string (⟨#[]⟩)) := HZV240.out.cell 2 rfl
        have r3_V240 : V240.cell? ⟨w.heap.size, 3, none⟩ = some (.int .i64 (0)) := HZV240.out.cell 3 rfl
        have r4_V240 : V240.cell? ⟨w.heap.size, 4, none⟩ = some (.int .i64 (0)) := HZV240.out.cell 4 rfl
        have r5_V240 : V240.cell? ⟨w.heap.size, 5, none⟩ = some (.int .i64 (0)) := HZV240.out.cell 5 rfl
        have r6_V240 : V240.cell? ⟨w.heap.size, 6, none⟩ = some (.string (⟨#[]⟩)) := HZV240.out.cell 6 rfl
        have r7_V240 : V240.cell? ⟨w.heap.size, 7, none⟩ = some (.slice none 0 0) := HZV240.out.cell 7 rfl
        have r8_V240 : V240.cell? ⟨w.heap.size, 8, none⟩ = some (.slice none 0 0) := HZV240.out.cell 8 rfl
        have r9_V240 : V240.cell? ⟨w.heap.size, 9, none⟩ = some (.slice none 0 0) := HZV240.out.cell 9 rfl
        have r10_V240 : V240.cell? ⟨w.heap.size, 10, none⟩ = some (.complex .f64 0 0) := HZV240.out.cell 10 rfl
        have xf_V240 : ∀ j, V240.frozen? ⟨B8, j, none⟩ = false := HXV240.out.fz
        have rf_V240 : ∀ j, V240.frozen? ⟨w.heap.size, j, none⟩ = false := HZV240.out.fz
        have xl_V240 : B8 < V240.heap.size := HXV240.out.lt
        have rl_V240 : w.heap.size < V240.heap.size := HZV240.out.lt
        go_wp2_with fail
        obtain ⟨hO1, hO2⟩ := HPO239.out
        subst hO1 hO2
        refine reds_end (⟨1, TX, ⟨#[]⟩, 0, k221, n222, sx223, ax224, lx225, qx226, none, 0, 0, none, 0, 0, X, Y⟩ : Sv) rfl HZV240.out HBV240.out hRw HGW.out ?hsome (fun _ => ⟨fa237, HFA238.out, ?_⟩)
        case hsome => exact fun x hx => by cases hx
        exact HQV240.out
      | some y230 =>
        obtain ⟨rfl, rfl, rfl, hT, hq⟩ := H227.out.2.1 y230 rfl
        obtain ⟨b235, hbb⟩ : ∃ b, ts.length - m218.length = b := ⟨_, rfl⟩
        rw [hbb] at hq HSF229
        clear hbb
        have HXw220 : Hid (BoxS w220 B8 (⟨1, TX, ⟨#[]⟩, 0, 0, 0, ⟨#[]⟩, none, 0, 0, none, 0, 0, none, 0, 0, X, Y⟩ : Sv).cells) := HXw216.out.but hbn hBR
        have HZw220 : Hid (BoxS w220 w.heap.size (sv0 0 0).cells) := HZw216.out.but hbn hrR
        have HBw220 : Hid (But R w w220) := HBw216.out.then hbn
        have HTw220 : Hid (BoxS w220 (w.heap.size + 1) [.int .i64 ((1 : Nat) : Int), .string TX, .int .i64 (nn : Int), .int .i64 (aa : Int)]) := HTw216.out.but hbn htR
        have HQw220 : Hid (Rq w220 R g cap ts b235 false bad) := hq
        have HRE234_w220 : Hid (ExsD w220 (Dk B8 w220) y230.of (.slice ax224 lx225 qx226)) := ex_new hT HXw216.out.lt
        clear hbn
        have HAL231 : Hid (Pp.Alive (left ts b235)) := by rw [HSF229.out.1]; exact HSF229.out.2
        have HLT232 : Hid (b235 < ts.length) := alive_lt HAL231.out
        have hP := HPO215.out
        rw [Pp.bind_some HP228.out, ← HSF229.out.1] at hP
        have HPO233 : Hid _ := hP
        clear hT hq hP
        clear x0_w216 x1_w216 x2_w216 x3_w216 x4_w216 x5_w216 x6_w216 x7_w216 x8_w216 x9_w216 x10_w216 r0_w216 r1_w216 r2_w216 r3_w216 r4_w216 r5_w216 r6_w216 r7_w216 r8_w216 r9_w216 r10_w216 xf_w216 rf_w216 xl_w216 rl_w216
        have x0_w220 : w220.cell? ⟨B8, 0, none⟩ = some (.int .i64 (1)) := HXw220.out.cell 0 rfl
        have x1_w220 : w220.cell? ⟨B8, 1, none⟩ = some (.string (TX)) := HXw220.out.cell 1 rfl
        have x2_w220 : w220.cell? ⟨B8, 2, none⟩ = some (.string (⟨#[]⟩)) := HXw220.out.cell 2 rfl
        have x3_w220 : w220.cell? ⟨B8, 3, none⟩ = some (.int .i64 (0)) := HXw220.out.cell 3 rfl
        have x4_w220 : w220.cell? ⟨B8, 4, none⟩ = some (.int .i64 (0)) := HXw220.out.cell 4 rfl
        have x5_w220 : w220.cell? ⟨B8, 5, none⟩ = some (.int .i64 (0)) := HXw220.out.cell 5 rfl
        have x6_w220 : w220.cell? ⟨B8, 6, none⟩ = some (.string (⟨#[]⟩)) := HXw220.out.cell 6 rfl
        have x7_w220 : w220.cell? ⟨B8, 7, none⟩ = some (.slice none 0 0) := HXw220.out.cell 7 rfl
        have x8_w220 : w220.cell? ⟨B8, 8, none⟩ = some (.slice none 0 0) := HXw220.out.cell 8 rfl
        have x9_w220 : w220.cell? ⟨B8, 9, none⟩ = some (.slice none 0 0) := HXw220.out.cell 9 rfl
        have x10_w220 : w220.cell? ⟨B8, 10, none⟩ = some (.complex .f64 X Y) := HXw220.out.cell 10 rfl
        have r0_w220 : w220.cell? ⟨w.heap.size, 0, none⟩ = some (.int .i64 (0)) := HZw220.out.cell 0 rfl
        have r1_w220 : w220.cell? ⟨w.heap.size, 1, none⟩ = some (.string (⟨#[]⟩)) := HZw220.out.cell 1 rfl
        have r2_w220 : w220.cell? ⟨w.heap.size, 2, none⟩ = some (.string (⟨#[]⟩)) := HZw220.out.cell 2 rfl
        have r3_w220 : w220.cell? ⟨w.heap.size, 3, none⟩ = some (.int .i64 (0)) := HZw220.out.cell 3 rfl
        have r4_w220 : w220.cell? ⟨w.heap.size, 4, none⟩ = some (.int .i64 (0)) := HZw220.out.cell 4 rfl
        have r5_w220 : w220.cell? ⟨w.heap.size, 5, none⟩ = some (.int .i64 (0)) := HZw220.out.cell 5 rfl
        have r6_w220 : w220.cell? ⟨w.heap.size, 6, none⟩ = some (.string (⟨#[]⟩)) := HZw220.out.cell 6 rfl
        have r7_w220 : w220.cell? ⟨w.heap.size, 7, none⟩ = some (.slice none 0 0) := HZw220.out.cell 7 rfl
        have r8_w220 : w220.cell? ⟨w.heap.size, 8, none⟩ = some (.slice none 0 0) := HZw220.out.cell 8 rfl
        have r9_w220 : w220.cell? ⟨w.heap.size, 9, none⟩ = some (.slice none 0 0) := HZw220.out.cell 9 rfl
        have r10_w220 : w220.cell? ⟨w.heap.size, 10, none⟩ = some (.complex .f64 0 0) := HZw220.out.cell 10 rfl
        have xf_w220 : ∀ j, w220.frozen? ⟨B8, j, none⟩ = false := HXw220.out.fz
        have rf_w220 : ∀ j, w220.frozen? ⟨w.heap.size, j, none⟩ = false := HZw220.out.fz
        have xl_w220 : B8 < w220.heap.size := HXw220.out.lt
        have rl_w220 : w.heap.size < w220.heap.size := HZw220.out.lt
        obtain ⟨V236, hV236⟩ : ∃ W, ((((w220).setCell ⟨B8, 4, none⟩ (.int .i64 y230.kind)).setCell ⟨B8, 5, none⟩ (.int .i64 y230.n)).setCell ⟨B8, 6, none⟩ (.string y230.name)).setCell ⟨B8, 7, none⟩ (.slice ax224 lx225 qx226) = W := ⟨_, rfl⟩
        have HXV236 : Hid (BoxS V236 B8 (⟨1, TX, ⟨#[]⟩, 0, y230.kind, y230.n, y230.name, ax224, lx225, qx226, none, 0, 0, none, 0, 0, X, Y⟩ : Sv).cells) := by rw [← hV236]; exact ((HXw220.out).setv 4 [.int .i64 y230.kind, .int .i64 y230.n, .string y230.name, .slice ax224 lx225 qx226] (⟨1, TX, ⟨#[]⟩, 0, y230.kind, y230.n, y230.name, ax224, lx225, qx226, none, 0, 0, none, 0, 0, X, Y⟩ : Sv).cells (by show 4 + 4 ≤ 11; decide) rfl)
        have HZV236 : Hid (BoxS V236 w.heap.size (sv0 0 0).cells) := by rw [← hV236]; exact ((HZw220.out).apart hrB 4 [.int .i64 y230.kind, .int .i64 y230.n, .string y230.name, .slice ax224 lx225 qx226])
        have HBV236 : Hid (But R w V236) := by rw [← hV236]; exact ((HBw220.out).sets (B := B8) (by omega) 4 [.int .i64 y230.kind, .int .i64 y230.n, .string y230.name, .slice ax224 lx225 qx226])
        have HTV236 : Hid (BoxS V236 (w.heap.size + 1) [.int .i64 ((1 : Nat) : Int), .string TX, .int .i64 (nn : Int), .int .i64 (aa : Int)]) := by rw [← hV236]; exact ((HTw220.out).apart htB 4 [.int .i64 y230.kind, .int .i64 y230.n, .string y230.name, .slice ax224 lx225 qx226])
        have uV236 : V236.cell? ⟨w.heap.size + 1, 1, none⟩ = some (.string TX) := HTV236.out.cell 1 rfl
        have HQV236 : Hid (Rq V236 R g cap ts b235 false bad) := by rw [← hV236]; exact ((HQw220.out).sets hBR hBg 4 [.int .i64 y230.kind, .int .i64 y230.n, .string y230.name, .slice ax224 lx225 qx226])
        have HRE234_V236 : Hid (ExsD V236 (Dk B8 V236) y230.of (.slice ax224 lx225 qx226)) := by rw [← hV236]; exact (ex_set HRE234_w220.out 4 [.int .i64 y230.kind, .int .i64 y230.n, .string y230.name, .slice ax224 lx225 qx226])
        have x0_V236 : V236.cell? ⟨B8, 0, none⟩ = some (.int .i64 (1)) := HXV236.out.cell 0 rfl
        have x1_V236 : V236.cell? ⟨B8, 1, none⟩ = some (.string (TX)) := HXV236.out.cell 1 rfl
        have x2_V236 : V236.cell? ⟨B8, 2, none⟩ = some (.string (⟨#[]⟩)) := HXV236.out.cell 2 rfl
        have x3_V236 : V236.cell? ⟨B8, 3, none⟩ = some (.int .i64 (0)) := HXV236.out.cell 3 rfl
        have x4_V236 : V236.cell? ⟨B8, 4, none⟩ = some (.int .i64 (y230.kind)) := HXV236.out.cell 4 rfl
        have x5_V236 : V236.cell? ⟨B8, 5, none⟩ = some (.int .i64 (y230.n)) := HXV236.out.cell 5 rfl
        have x6_V236 : V236.cell? ⟨B8, 6, none⟩ = some (.string (y230.name)) := HXV236.out.cell 6 rfl
        have x7_V236 : V236.cell? ⟨B8, 7, none⟩ = some (.slice ax224 lx225 qx226) := HXV236.out.cell 7 rfl
        have x8_V236 : V236.cell? ⟨B8, 8, none⟩ = some (.slice none 0 0) := HXV236.out.cell 8 rfl
        have x9_V236 : V236.cell? ⟨B8, 9, none⟩ = some (.slice none 0 0) := HXV236.out.cell 9 rfl
        have x10_V236 : V236.cell? ⟨B8, 10, none⟩ = some (.complex .f64 X Y) := HXV236.out.cell 10 rfl
        have r0_V236 : V236.cell? ⟨w.heap.size, 0, none⟩ = some (.int .i64 (0)) := HZV236.out.cell 0 rfl
        have r1_V236 : V236.cell? ⟨w.heap.size, 1, none⟩ = some (.string (⟨#[]⟩)) := HZV236.out.cell 1 rfl
        have r2_V236 : V236.cell? ⟨w.heap.size, 2, none⟩ = some (.string (⟨#[]⟩)) := HZV236.out.cell 2 rfl
        have r3_V236 : V236.cell? ⟨w.heap.size, 3, none⟩ = some (.int .i64 (0)) := HZV236.out.cell 3 rfl
        have r4_V236 : V236.cell? ⟨w.heap.size, 4, none⟩ = some (.int .i64 (0)) := HZV236.out.cell 4 rfl
        have r5_V236 : V236.cell? ⟨w.heap.size, 5, none⟩ = some (.int .i64 (0)) := HZV236.out.cell 5 rfl
        have r6_V236 : V236.cell? ⟨w.heap.size, 6, none⟩ = some (.string (⟨#[]⟩)) := HZV236.out.cell 6 rfl
        have r7_V236 : V236.cell? ⟨w.heap.size, 7, none⟩ = some (.slice none 0 0) := HZV236.out.cell 7 rfl
        have r8_V236 : V236.cell? ⟨w.heap.size, 8, none⟩ = some (.slice none 0 0) := HZV236.out.cell 8 rfl
        have r9_V236 : V236.cell? ⟨w.heap.size, 9, none⟩ = some (.slice none 0 0) := HZV236.out.cell 9 rfl
        have r10_V236 : V236.cell? ⟨w.heap.size, 10, none⟩ = some (.complex .f64 0 0) := HZV236.out.cell 10 rfl
        have xf_V236 : ∀ j, V236.frozen? ⟨B8, j, none⟩ = false := HXV236.out.fz
        have rf_V236 : ∀ j, V236.frozen? ⟨w.heap.size, j, none⟩ = false := HZV236.out.fz
        have xl_V236 : B8 < V236.heap.size := HXV236.out.lt
        have rl_V236 : w.heap.size < V236.heap.size := HZV236.out.lt
        go_wp2_with fail
        have hP := HPO233.out
        simp only [Pp.ret, Prod.mk.injEq] at hP
        obtain ⟨hO1, hO2⟩ := hP
        subst hO1 hO2
        refine reds_end (⟨1, TX, ⟨#[]⟩, 0, y230.kind, y230.n, y230.name, ax224, lx225, qx226, none, 0, 0, none, 0, 0, X, Y⟩ : Sv) rfl HZV236.out HBV236.out hRw HGW.out (fun x hx => ?_) (fun hx => by cases hx)
        cases hx
        refine ⟨⟨rfl, HTX.out, rfl, rfl, rfl, rfl, rfl, rfl, rfl, ex_fin HRE234_V236.out (by omega), StsD.nil' _ _, StsD.nil' _ _⟩, ?_⟩
        rw [show ts.length - (left ts b235).length = b235 by rw [left_len]; have := HLT232.out; omega]
        exact HQV236.out
    | false =>
      have H241 : Hid (Px.isSg [61] (Px.hd (left ts (a + 1))) = false) := hnm
      have NM : Hid _ := rmust_any HQV211.out HA2.out ⟨#[61]⟩ false (by show (!false && Px.isSg [61] (Px.hd (left ts (a + 1)))) = false; rw [hnm]; rfl)
      go_wp2_with fail
      refine Calls.mono NM.out ?_
      rintro e w243 ⟨⟨v, rfl⟩, hbn, hz⟩
      clear NM
      have HXw243 : Hid (BoxS w243 B8 (⟨1, TX, ⟨#[]⟩, 0, 0, 0, ⟨#[]⟩, none, 0, 0, none, 0, 0, none, 0, 0, X, Y⟩ : Sv).cells) := HXV211.out.but hbn hBR
      have HZw243 : Hid (BoxS w243 w.heap.size (sv0 0 0).cells) := HZV211.out.but hbn hrR
      have HBw243 : Hid (But R w w243) := HBV211.out.then hbn
      have HTw243 : Hid (BoxS w243 (w.heap.size + 1) [.int .i64 ((1 : Nat) : Int), .string TX, .int .i64 (nn : Int), .int .i64 (aa : Int)]) := HTV211.out.but hbn htR
      have HQw243 : Hid (Rq w243 R g cap ts (a + 1) true (a + 1)) := Rz_no hz
      clear hbn
      have hP := HPO0.out
      rw [bind_skip_no (by have := sg_text HOK.out HA2.out (x := Pp.tIs) (by decide); rw [H241.out] at this; exact of_decide_eq_false this.symm)] at hP
      simp only [Prod.mk.injEq] at hP
      have HPO242 : Hid (o = none ∧ m = (left ts (a + 1))) := ⟨hP.1.symm, hP.2.symm⟩
      clear hz hnm hP
      clear x0_W3 x1_W3 x2_W3 x3_W3 x4_W3 x5_W3 x6_W3 x7_W3 x8_W3 x9_W3 x10_W3 r0_W3 r1_W3 r2_W3 r3_W3 r4_W3 r5_W3 r6_W3 r7_W3 r8_W3 r9_W3 r10_W3 xf_W3 rf_W3 xl_W3 rl_W3
      have x0_w243 : w243.cell? ⟨B8, 0, none⟩ = some (.int .i64 (1)) := HXw243.out.cell 0 rfl
      have x1_w243 : w243.cell? ⟨B8, 1, none⟩ = some (.string (TX)) := HXw243.out.cell 1 rfl
      have x2_w243 : w243.cell? ⟨B8, 2, none⟩ = some (.string (⟨#[]⟩)) := HXw243.out.cell 2 rfl
      have x3_w243 : w243.cell? ⟨B8, 3, none⟩ = some (.int .i64 (0)) := HXw243.out.cell 3 rfl
      have x4_w243 : w243.cell? ⟨B8, 4, none⟩ = some (.int .i64 (0)) := HXw243.out.cell 4 rfl
      have x5_w243 : w243.cell? ⟨B8, 5, none⟩ = some (.int .i64 (0)) := HXw243.out.cell 5 rfl
      have x6_w243 : w243.cell? ⟨B8, 6, none⟩ = some (.string (⟨#[]⟩)) := HXw243.out.cell 6 rfl
      have x7_w243 : w243.cell? ⟨B8, 7, none⟩ = some (.slice none 0 0) := HXw243.out.cell 7 rfl
      have x8_w243 : w243.cell? ⟨B8, 8, none⟩ = some (.slice none 0 0) := HXw243.out.cell 8 rfl
      have x9_w243 : w243.cell? ⟨B8, 9, none⟩ = some (.slice none 0 0) := HXw243.out.cell 9 rfl
      have x10_w243 : w243.cell? ⟨B8, 10, none⟩ = some (.complex .f64 X Y) := HXw243.out.cell 10 rfl
      have r0_w243 : w243.cell? ⟨w.heap.size, 0, none⟩ = some (.int .i64 (0)) := HZw243.out.cell 0 rfl
      have r1_w243 : w243.cell? ⟨w.heap.size, 1, none⟩ = some (.string (⟨#[]⟩)) := HZw243.out.cell 1 rfl
      have r2_w243 : w243.cell? ⟨w.heap.size, 2, none⟩ = some (.string (⟨#[]⟩)) := HZw243.out.cell 2 rfl
      have r3_w243 : w243.cell? ⟨w.heap.size, 3, none⟩ = some (.int .i64 (0)) := HZw243.out.cell 3 rfl
      have r4_w243 : w243.cell? ⟨w.heap.size, 4, none⟩ = some (.int .i64 (0)) := HZw243.out.cell 4 rfl
      have r5_w243 : w243.cell? ⟨w.heap.size, 5, none⟩ = some (.int .i64 (0)) := HZw243.out.cell 5 rfl
      have r6_w243 : w243.cell? ⟨w.heap.size, 6, none⟩ = some (.string (⟨#[]⟩)) := HZw243.out.cell 6 rfl
      have r7_w243 : w243.cell? ⟨w.heap.size, 7, none⟩ = some (.slice none 0 0) := HZw243.out.cell 7 rfl
      have r8_w243 : w243.cell? ⟨w.heap.size, 8, none⟩ = some (.slice none 0 0) := HZw243.out.cell 8 rfl
      have r9_w243 : w243.cell? ⟨w.heap.size, 9, none⟩ = some (.slice none 0 0) := HZw243.out.cell 9 rfl
      have r10_w243 : w243.cell? ⟨w.heap.size, 10, none⟩ = some (.complex .f64 0 0) := HZw243.out.cell 10 rfl
      have xf_w243 : ∀ j, w243.frozen? ⟨B8, j, none⟩ = false := HXw243.out.fz
      have rf_w243 : ∀ j, w243.frozen? ⟨w.heap.size, j, none⟩ = false := HZw243.out.fz
      have xl_w243 : B8 < w243.heap.size := HXw243.out.lt
      have rl_w243 : w.heap.size < w243.heap.size := HZw243.out.lt
      have NM : Hid _ := rwhole_no HQw243.out s
      go_wp2_with fail
      refine Calls.mono NM.out ?_
      rintro e w244 ⟨rfl, kk⟩
      have hbn : But R w243 w244 := But.of kk
      clear NM
      have HXw244 : Hid (BoxS w244 B8 (⟨1, TX, ⟨#[]⟩, 0, 0, 0, ⟨#[]⟩, none, 0, 0, none, 0, 0, none, 0, 0, X, Y⟩ : Sv).cells) := HXw243.out.but hbn hBR
      have HZw244 : Hid (BoxS w244 w.heap.size (sv0 0 0).cells) := HZw243.out.but hbn hrR
      have HBw244 : Hid (But R w w244) := HBw243.out.then hbn
      have HTw244 : Hid (BoxS w244 (w.heap.size + 1) [.int .i64 ((1 : Nat) : Int), .string TX, .int .i64 (nn : Int), .int .i64 (aa : Int)]) := HTw243.out.but hbn htR
      have HQw244 : Hid (Rq w244 R g cap ts (a + 1) true (a + 1)) := HQw243.out.kept kk
      clear hbn
      clear kk
      clear x0_w243 x1_w243 x2_w243 x3_w243 x4_w243 x5_w243 x6_w243 x7_w243 x8_w243 x9_w243 x10_w243 r0_w243 r1_w243 r2_w243 r3_w243 r4_w243 r5_w243 r6_w243 r7_w243 r8_w243 r9_w243 r10_w243 xf_w243 rf_w243 xl_w243 rl_w243
      have x0_w244 : w244.cell? ⟨B8, 0, none⟩ = some (.int .i64 (1)) := HXw244.out.cell 0 rfl
      have x1_w244 : w244.cell? ⟨B8, 1, none⟩ = some (.string (TX)) := HXw244.out.cell 1 rfl
      have x2_w244 : w244.cell? ⟨B8, 2, none⟩ = some (.string (⟨#[]⟩)) := HXw244.out.cell 2 rfl
      have x3_w244 : w244.cell? ⟨B8, 3, none⟩ = some (.int .i64 (0)) := HXw244.out.cell 3 rfl
      have x4_w244 : w244.cell? ⟨B8, 4, none⟩ = some (.int .i64 (0)) := HXw244.out.cell 4 rfl
      have x5_w244 : w244.cell? ⟨B8, 5, none⟩ = some (.int .i64 (0)) := HXw244.out.cell 5 rfl
      have x6_w244 : w244.cell? ⟨B8, 6, none⟩ = some (.string (⟨#[]⟩)) := HXw244.out.cell 6 rfl
      have x7_w244 : w244.cell? ⟨B8, 7, none⟩ = some (.slice none 0 0) := HXw244.out.cell 7 rfl
      have x8_w244 : w244.cell? ⟨B8, 8, none⟩ = some (.slice none 0 0) := HXw244.out.cell 8 rfl
      have x9_w244 : w244.cell? ⟨B8, 9, none⟩ = some (.slice none 0 0) := HXw244.out.cell 9 rfl
      have x10_w244 : w244.cell? ⟨B8, 10, none⟩ = some (.complex .f64 X Y) := HXw244.out.cell 10 rfl
      have r0_w244 : w244.cell? ⟨w.heap.size, 0, none⟩ = some (.int .i64 (0)) := HZw244.out.cell 0 rfl
      have r1_w244 : w244.cell? ⟨w.heap.size, 1, none⟩ = some (.string (⟨#[]⟩)) := HZw244.out.cell 1 rfl
      have r2_w244 : w244.cell? ⟨w.heap.size, 2, none⟩ = some (.string (⟨#[]⟩)) := HZw244.out.cell 2 rfl
      have r3_w244 : w244.cell? ⟨w.heap.size, 3, none⟩ = some (.int .i64 (0)) := HZw244.out.cell 3 rfl
      have r4_w244 : w244.cell? ⟨w.heap.size, 4, none⟩ = some (.int .i64 (0)) := HZw244.out.cell 4 rfl
      have r5_w244 : w244.cell? ⟨w.heap.size, 5, none⟩ = some (.int .i64 (0)) := HZw244.out.cell 5 rfl
      have r6_w244 : w244.cell? ⟨w.heap.size, 6, none⟩ = some (.string (⟨#[]⟩)) := HZw244.out.cell 6 rfl
      have r7_w244 : w244.cell? ⟨w.heap.size, 7, none⟩ = some (.slice none 0 0) := HZw244.out.cell 7 rfl
      have r8_w244 : w244.cell? ⟨w.heap.size, 8, none⟩ = some (.slice none 0 0) := HZw244.out.cell 8 rfl
      have r9_w244 : w244.cell? ⟨w.heap.size, 9, none⟩ = some (.slice none 0 0) := HZw244.out.cell 9 rfl
      have r10_w244 : w244.cell? ⟨w.heap.size, 10, none⟩ = some (.complex .f64 0 0) := HZw244.out.cell 10 rfl
      have xf_w244 : ∀ j, w244.frozen? ⟨B8, j, none⟩ = false := HXw244.out.fz
      have rf_w244 : ∀ j, w244.frozen? ⟨w.heap.size, j, none⟩ = false := HZw244.out.fz
      have xl_w244 : B8 < w244.heap.size := HXw244.out.lt
      have rl_w244 : w.heap.size < w244.heap.size := HZw244.out.lt
      obtain ⟨V245, hV245⟩ : ∃ W, ((((w244).setCell ⟨B8, 4, none⟩ (.int .i64 0)).setCell ⟨B8, 5, none⟩ (.int .i64 0)).setCell ⟨B8, 6, none⟩ (.string ⟨#[]⟩)).setCell ⟨B8, 7, none⟩ (.slice none 0 0) = W := ⟨_, rfl⟩
      have HXV245 : Hid (BoxS V245 B8 (⟨1, TX, ⟨#[]⟩, 0, 0, 0, ⟨#[]⟩, none, 0, 0, none, 0, 0, none, 0, 0, X, Y⟩ : Sv).cells) := by rw [← hV245]; exact ((HXw244.out).setv 4 [.int .i64 0, .int .i64 0, .string ⟨#[]⟩, .slice none 0 0] (⟨1, TX, ⟨#[]⟩, 0, 0, 0, ⟨#[]⟩, none, 0, 0, none, 0, 0, none, 0, 0, X, Y⟩ : Sv).cells (by show 4 + 4 ≤ 11; decide) rfl)
      have HZV245 : Hid (BoxS V245 w.heap.size (sv0 0 0).cells) := by rw [← hV245]; exact ((HZw244.out).apart hrB 4 [.int .i64 0, .int .i64 0, .string ⟨#[]⟩, .slice none 0 0])
      have HBV245 : Hid (But R w V245) := by rw [← hV245]; exact ((HBw244.out).sets (B := B8) (by omega) 4 [.int .i64 0, .int .i64 0, .string ⟨#[]⟩, .slice none 0 0])
      have HTV245 : Hid (BoxS V245 (w.heap.size + 1) [.int .i64 ((1 : Nat) : Int), .string TX, .int .i64 (nn : Int), .int .i64 (aa : Int)]) := by rw [← hV245]; exact ((HTw244.out).apart htB 4 [.int .i64 0, .int .i64 0, .string ⟨#[]⟩, .slice none 0 0])
      have uV245 : V245.cell? ⟨w.heap.size + 1, 1, none⟩ = some (.string TX) := HTV245.out.cell 1 rfl
      have HQV245 : Hid (Rq V245 R g cap ts (a + 1) true (a + 1)) := by rw [← hV245]; exact ((HQw244.out).sets hBR hBg 4 [.int .i64 0, .int .i64 0, .string ⟨#[]⟩, .slice none 0 0])
      have x0_V245 : V245.cell? ⟨B8, 0, none⟩ = some (.int .i64 (1)) := HXV245.out.cell 0 rfl
      have x1_V245 : V245.cell? ⟨B8, 1, none⟩ = some (.string (TX)) := HXV245.out.cell 1 rfl
      have x2_V245 : V245.cell? ⟨B8, 2, none⟩ = some (.string (⟨#[]⟩)) := HXV245.out.cell 2 rfl
      have x3_V245 : V245.cell? ⟨B8, 3, none⟩ = some (.int .i64 (0)) := HXV245.out.cell 3 rfl
      have x4_V245 : V245.cell? ⟨B8, 4, none⟩ = some (.int .i64 (0)) := HXV245.out.cell 4 rfl
      have x5_V245 : V245.cell? ⟨B8, 5, none⟩ = some (.int .i64 (0)) := HXV245.out.cell 5 rfl
      have x6_V245 : V245.cell? ⟨B8, 6, none⟩ = some (.string (⟨#[]⟩)) := HXV245.out.cell 6 rfl
      have x7_V245 : V245.cell? ⟨B8, 7, none⟩ = some (.slice none 0 0) := HXV245.out.cell 7 rfl
      have x8_V245 : V245.cell? ⟨B8, 8, none⟩ = some (.slice none 0 0) := HXV245.out.cell 8 rfl
      have x9_V245 : V245.cell? ⟨B8, 9, none⟩ = some (.slice none 0 0) := HXV245.out.cell 9 rfl
      have x10_V245 : V245.cell? ⟨B8, 10, none⟩ = some (.complex .f64 X Y) := HXV245.out.cell 10 rfl
      have r0_V245 : V245.cell? ⟨w.heap.size, 0, none⟩ = some (.int .i64 (0)) := HZV245.out.cell 0 rfl
      have r1_V245 : V245.cell? ⟨w.heap.size, 1, none⟩ = some (.string (⟨#[]⟩)) := HZV245.out.cell 1 rfl
      have r2_V245 : V245.cell? ⟨w.heap.size, 2, none⟩ = some (.string (⟨#[]⟩)) := HZV245.out.cell 2 rfl
      have r3_V245 : V245.cell? ⟨w.heap.size, 3, none⟩ = some (.int .i64 (0)) := HZV245.out.cell 3 rfl
      have r4_V245 : V245.cell? ⟨w.heap.size, 4, none⟩ = some (.int .i64 (0)) := HZV245.out.cell 4 rfl
      have r5_V245 : V245.cell? ⟨w.heap.size, 5, none⟩ = some (.int .i64 (0)) := HZV245.out.cell 5 rfl
      have r6_V245 : V245.cell? ⟨w.heap.size, 6, none⟩ = some (.string (⟨#[]⟩)) := HZV245.out.cell 6 rfl
      have r7_V245 : V245.cell? ⟨w.heap.size, 7, none⟩ = some (.slice none 0 0) := HZV245.out.cell 7 rfl
      have r8_V245 : V245.cell? ⟨w.heap.size, 8, none⟩ = some (.slice none 0 0) := HZV245.out.cell 8 rfl
      have r9_V245 : V245.cell? ⟨w.heap.size, 9, none⟩ = some (.slice none 0 0) := HZV245.out.cell 9 rfl
      have r10_V245 : V245.cell? ⟨w.heap.size, 10, none⟩ = some (.complex .f64 0 0) := HZV245.out.cell 10 rfl
      have xf_V245 : ∀ j, V245.frozen? ⟨B8, j, none⟩ = false := HXV245.out.fz
      have rf_V245 : ∀ j, V245.frozen? ⟨w.heap.size, j, none⟩ = false := HZV245.out.fz
      have xl_V245 : B8 < V245.heap.size := HXV245.out.lt
      have rl_V245 : w.heap.size < V245.heap.size := HZV245.out.lt
      go_wp2_with fail
      obtain ⟨hO1, hO2⟩ := HPO242.out
      subst hO1 hO2
      refine reds_end (⟨1, TX, ⟨#[]⟩, 0, 0, 0, ⟨#[]⟩, none, 0, 0, none, 0, 0, none, 0, 0, X, Y⟩ : Sv) rfl HZV245.out HBV245.out hRw HGW.out ?hsome (fun _ => ⟨(a + 1), HA2.out, ?_⟩)
      case hsome => exact fun x hx => by cases hx
      rw [show ts.length - (left ts (a + 1)).length = (a + 1) by rw [left_len]; have := HA2.out; omega]
      exact HQV245.out
end Go.Proofs.Ytnfkjmafhaecgaa
