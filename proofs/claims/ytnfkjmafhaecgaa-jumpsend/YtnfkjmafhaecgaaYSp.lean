/- Sp -/
import Derived.Test.YtnfkjmafhaecgaaYSa

namespace Go.Proofs.Ytnfkjmafhaecgaa
open Go.RowKit
attribute [local go_sem] run_store_complex
set_option maxRecDepth 100000 in
set_option maxHeartbeats 8000000 in
theorem rstmt_print (deep : Int) (blk : Pp.Pl → Pp.R (List St)) {R g cap : Nat} {s : ByteArray} {ts : List Lx.Tk} {a bad : Nat} {w : World} (h : Rq w R g cap ts a false bad) (hal : Pp.Alive (left ts a)) (hok : TkOk s ts) (o : Option St) (m : List Lx.Core) (htx : (Px.hd (left ts a)).2.1 = [112, 114, 105, 110, 116]) (hp : Pp.stmt (plOf s ts) (blk (plOf s ts)) (left ts a) = (o, m)) :
    Calls Try.prog 62 #[.pointer (some ⟨R, 0, none⟩), .string s, .int .i64 deep] w fun e w' => RedS R g cap ts bad w o m e w' := by
  have ha := alive_lt hal
  have HR : Hid (Rq w R g cap ts a false bad) := h
  have hRw := h.rlt
  have hgw := h.lt
  have c0 := h.c0
  have c1 := h.c1
  have z1 := h.z 1
  have hf := h.few
  have hwr : IntKind.i64.wrap ((a : Int) + 1) = (a : Int) + 1 := by rw [IntKind.wrap_i64]; omega
  have hhd := hd_in ts a ha
  rw [hhd] at htx
  replace htx : Hid (ts[a].text = [112, 114, 105, 110, 116]) := htx
  have hmem := List.getElem_mem ha
  have hw1 : ts[a].kind = 1 → Lx.isWord ts[a].text = true := hok.fit _ hmem
  have hkd : Hid (ts[a].kind = kindOf ts[a].text) := hok.kd _ hmem
  have HPL : Hid (∀ W, Calls Try.prog 50 #[.string s, .int .i64 (ts[a].at' : Int)] W fun e w' => e = .returned (.complex .f64 (lineW s ts[a].at') (colW s ts[a].at')) ∧ w' = W) := fun W => place_in s _ hok.sz (hok.at' _ hmem) W
  have hpl : plOf s ts (left ts a).length = (lineW s ts[a].at', colW s ts[a].at') := plOf_at s ts a ha
  obtain ⟨t0, t1, t2, t3⟩ := h.tok a ha
  have hai : (a : Int) < (ts.length : Int) := by omega
  have HA : Hid (a < ts.length) := ha
  have HAL : Hid (Pp.Alive (left ts a)) := hal
  have HOK : Hid (TkOk s ts) := hok
  have HHD : Hid _ := hhd
  have HPP : Hid _ := hpl
  unfold Pp.stmt at hp
  rw [hpl, hhd] at hp
  generalize lineW s ts[a].at' = X at *
  generalize colW s ts[a].at' = Y at *
  generalize ts[a].kind = kd at *
  generalize ts[a].text = tx at *
  generalize ts[a].n = nn at *
  generalize ts[a].at' = aa at *
  obtain ⟨N, hN⟩ : ∃ N, ts.length = N := ⟨_, rfl⟩
  have HN : Hid (ts.length = N) := hN
  rw [hN] at c0 hf hai
  clear h hal hok ha hN hmem hpl
  go_enter Try.func62, Try.ntmps62
  go_wp2_with fail
  go_region
  obtain ⟨W1, hW1⟩ : ∃ W1, ((sz w).alloc (.cells #[.int .i64 (kd : Int), .string (Px.ba tx), .int .i64 (nn : Int), .int .i64 (aa : Int)] 99)).drew = W1 := ⟨_, rfl⟩
  have hkw : Kept w (sz w) := (Kept.refl _).al _
  have hk1 : Kept (sz w) W1 := by rw [← hW1]; exact ((Kept.refl _).al _).dr
  have KW1 : Hid (Kept w W1) := hkw.then hk1
  have hbz : BoxS W1 w.heap.size (sv0 0 0).cells := (box_of (heap_alloc_new w _)).kept hk1
  have hbt : BoxS W1 (w.heap.size + 1) [.int .i64 (kd : Int), .string (Px.ba tx), .int .i64 (nn : Int), .int .i64 (aa : Int)] := by
    have h1 : BoxS ((sz w).alloc (.cells #[.int .i64 (kd : Int), .string (Px.ba tx), .int .i64 (nn : Int), .int .i64 (aa : Int)] 99)) (sz w).heap.size [.int .i64 (kd : Int), .string (Px.ba tx), .int .i64 (nn : Int), .int .i64 (aa : Int)] := box_of (heap_alloc_new (sz w) _)
    rw [show (sz w).heap.size = w.heap.size + 1 by simp] at h1
    rw [← hW1]
    exact h1.kept (Kept.refl _).dr
  have u3 : W1.cell? ⟨w.heap.size + 1, 3, none⟩ = some (.int .i64 (aa : Int)) := hbt.cell 3 rfl
  have hlt1 : w.heap.size + 1 < W1.heap.size := hbt.lt
  rw [hW1]
  clear hW1 hk1 hkw c0 t0 t1 t2 t3
  go_wp2_with fail
  refine (HPL.out _).mono ?_
  rintro e W1 ⟨rfl, rfl⟩
  obtain ⟨B8, hB8⟩ : ∃ B, W1.heap.size = B := ⟨_, rfl⟩
  obtain ⟨W2, hW2⟩ : ∃ W, W1.alloc (.cells #[.int .i64 0, .string ⟨#[]⟩, .string ⟨#[]⟩, .int .i64 0, .int .i64 0, .int .i64 0, .string ⟨#[]⟩, .slice none 0 0, .slice none 0 0, .slice none 0 0, .complex .f64 X Y] 46) = W := ⟨_, rfl⟩
  have hk2 : Kept W1 W2 := by rw [← hW2]; exact (Kept.refl _).al _
  have KW2 : Hid (Kept w W2) := KW1.out.then hk2
  have HQ2 : Hid (Rq W2 R g cap ts a false bad) := HR.out.kept KW2.out
  have hx : BoxS W2 B8 (⟨0, ⟨#[]⟩, ⟨#[]⟩, 0, 0, 0, ⟨#[]⟩, none, 0, 0, none, 0, 0, none, 0, 0, X, Y⟩ : Sv).cells := by rw [← hW2, ← hB8]; exact box_of (heap_alloc_new W1 _)
  have HXW2 : Hid (BoxS W2 B8 (⟨0, ⟨#[]⟩, ⟨#[]⟩, 0, 0, 0, ⟨#[]⟩, none, 0, 0, none, 0, 0, none, 0, 0, X, Y⟩ : Sv).cells) := hx
  have hzz : BoxS W2 w.heap.size (sv0 0 0).cells := hbz.kept hk2
  have HZW2 : Hid (BoxS W2 w.heap.size (sv0 0 0).cells) := hzz
  have x0 : W2.cell? ⟨B8, 0, none⟩ = some (.int .i64 (0)) := hx.cell 0 rfl
  have x1 : W2.cell? ⟨B8, 1, none⟩ = some (.string (⟨#[]⟩)) := hx.cell 1 rfl
  have x2 : W2.cell? ⟨B8, 2, none⟩ = some (.string (⟨#[]⟩)) := hx.cell 2 rfl
  have x3 : W2.cell? ⟨B8, 3, none⟩ = some (.int .i64 (0)) := hx.cell 3 rfl
  have x4 : W2.cell? ⟨B8, 4, none⟩ = some (.int .i64 (0)) := hx.cell 4 rfl
  have x5 : W2.cell? ⟨B8, 5, none⟩ = some (.int .i64 (0)) := hx.cell 5 rfl
  have x6 : W2.cell? ⟨B8, 6, none⟩ = some (.string (⟨#[]⟩)) := hx.cell 6 rfl
  have x7 : W2.cell? ⟨B8, 7, none⟩ = some (.slice none 0 0) := hx.cell 7 rfl
  have x8 : W2.cell? ⟨B8, 8, none⟩ = some (.slice none 0 0) := hx.cell 8 rfl
  have x9 : W2.cell? ⟨B8, 9, none⟩ = some (.slice none 0 0) := hx.cell 9 rfl
  have x10 : W2.cell? ⟨B8, 10, none⟩ = some (.complex .f64 X Y) := hx.cell 10 rfl
  have r0 : W2.cell? ⟨w.heap.size, 0, none⟩ = some (.int .i64 (0)) := hzz.cell 0 rfl
  have r1 : W2.cell? ⟨w.heap.size, 1, none⟩ = some (.string (⟨#[]⟩)) := hzz.cell 1 rfl
  have r2 : W2.cell? ⟨w.heap.size, 2, none⟩ = some (.string (⟨#[]⟩)) := hzz.cell 2 rfl
  have r3 : W2.cell? ⟨w.heap.size, 3, none⟩ = some (.int .i64 (0)) := hzz.cell 3 rfl
  have r4 : W2.cell? ⟨w.heap.size, 4, none⟩ = some (.int .i64 (0)) := hzz.cell 4 rfl
  have r5 : W2.cell? ⟨w.heap.size, 5, none⟩ = some (.int .i64 (0)) := hzz.cell 5 rfl
  have r6 : W2.cell? ⟨w.heap.size, 6, none⟩ = some (.string (⟨#[]⟩)) := hzz.cell 6 rfl
  have r7 : W2.cell? ⟨w.heap.size, 7, none⟩ = some (.slice none 0 0) := hzz.cell 7 rfl
  have r8 : W2.cell? ⟨w.heap.size, 8, none⟩ = some (.slice none 0 0) := hzz.cell 8 rfl
  have r9 : W2.cell? ⟨w.heap.size, 9, none⟩ = some (.slice none 0 0) := hzz.cell 9 rfl
  have r10 : W2.cell? ⟨w.heap.size, 10, none⟩ = some (.complex .f64 0 0) := hzz.cell 10 rfl
  have xf : ∀ j, W2.frozen? ⟨B8, j, none⟩ = false := hx.fz
  have rf : ∀ j, W2.frozen? ⟨w.heap.size, j, none⟩ = false := hzz.fz
  have xl : B8 < W2.heap.size := hx.lt
  have rl : w.heap.size < W2.heap.size := hzz.lt
  clear hx hzz
  have htk : BoxS W2 (w.heap.size + 1) [.int .i64 (kd : Int), .string (Px.ba tx), .int .i64 (nn : Int), .int .i64 (aa : Int)] := hbt.kept hk2
  have HTW2 : Hid (BoxS W2 (w.heap.size + 1) [.int .i64 (kd : Int), .string (Px.ba tx), .int .i64 (nn : Int), .int .i64 (aa : Int)]) := htk
  have u0 : W2.cell? ⟨w.heap.size + 1, 0, none⟩ = some (.int .i64 (kd : Int)) := htk.cell 0 rfl
  have u1 : W2.cell? ⟨w.heap.size + 1, 1, none⟩ = some (.string (Px.ba tx)) := htk.cell 1 rfl
  clear htk
  have hR2 := HQ2.out.rlt
  replace c1 := HQ2.out.c1
  replace z1 := HQ2.out.z 1
  have hBR : B8 ≠ R := by omega
  have hBg : B8 ≠ g := by omega
  have hBw : w.heap.size + 1 < B8 := by omega
  have hrR : w.heap.size ≠ R := by omega
  have htR : w.heap.size + 1 ≠ R := by omega
  have hrB : w.heap.size ≠ B8 := by omega
  have htB : w.heap.size + 1 ≠ B8 := by omega
  have HGW : Hid (g < w.heap.size) := hgw
  have LF : Hid (ts.length - (left ts a).length = a) := by show _ = _; rw [left_len]; have := HA.out; omega
  clear hbz hbt u3 hk2 hgw hlt1
  have h1 : kd = 1 := by rw [hkd.out, htx.out]; decide
  have hal2 : Pp.Alive (left ts (a + 1)) := by
    have := HAL.out.tail (.inl (by rw [hhd, h1]; show (1 : Nat) ≠ 4; decide))
    rwa [left_tail] at this
  have HAL2 : Hid (Pp.Alive (left ts (a + 1))) := hal2
  have HA2 : Hid (a + 1 < ts.length) := alive_lt hal2
  obtain ⟨W3, hW3⟩ : ∃ W, W2.setCell ⟨R, 1, none⟩ (.int .i64 ((a : Int) + 1)) = W := ⟨_, rfl⟩
  have hq3 := HQ2.out.at' (a + 1) (Nat.le_of_lt HA2.out)
  rw [show ((a + 1 : Nat) : Int) = (a : Int) + 1 by omega, hW3] at hq3
  have HQW3 : Hid (Rq W3 R g cap ts (a + 1) false bad) := hq3
  have hb23 : But R W2 W3 := by rw [← hW3]; exact (But.refl _ _).set _ _
  have HBW3 : Hid (But R w W3) := (But.of KW2.out).then hb23
  have HXW3 : Hid (BoxS W3 B8 (⟨0, ⟨#[]⟩, ⟨#[]⟩, 0, 0, 0, ⟨#[]⟩, none, 0, 0, none, 0, 0, none, 0, 0, X, Y⟩ : Sv).cells) := HXW2.out.but hb23 hBR
  have HZW3 : Hid (BoxS W3 w.heap.size (sv0 0 0).cells) := HZW2.out.but hb23 hrR
  have HTW3 : Hid (BoxS W3 (w.heap.size + 1) [.int .i64 (kd : Int), .string (Px.ba tx), .int .i64 (nn : Int), .int .i64 (aa : Int)]) := HTW2.out.but hb23 htR
  subst h1
  clear hq3 hb23 hal2 hw1 x0 x1 x2 x3 x4 x5 x6 x7 x8 x9 x10 r0 r1 r2 r3 r4 r5 r6 r7 r8 r9 r10 xf rf xl rl
  have htx1 := htx.out
  subst htx1
  clear htx
  have hP : Pp.bind Px.read (fun e => Pp.ret (St.mk 6 Px.e0 Px.e0 0 e [] [] X Y)) (left ts (a + 1)) = (o, m) := by
    have : Pp.behind (blk (plOf s ts)) 6 (X, Y) (left ts a).tail = (o, m) := hp
    rw [left_tail] at this
    exact this
  have HPO0 : Hid _ := hP
  have hRB : R < B8 := by omega
  clear hp hP hhd hkd
  have e0 : ((Px.ba [112, 114, 105, 110, 116]).toList == [108, 111, 99, 107]) = false := by rw [show (Px.ba [112, 114, 105, 110, 116]).toList = [112, 114, 105, 110, 116] by rw [toList_data]; rfl]; decide
  have e1 : ((Px.ba [112, 114, 105, 110, 116]).toList == [117, 110, 108, 111, 99, 107]) = false := by rw [show (Px.ba [112, 114, 105, 110, 116]).toList = [112, 114, 105, 110, 116] by rw [toList_data]; rfl]; decide
  have e2 : ((Px.ba [112, 114, 105, 110, 116]).toList == [103, 111, 116, 111]) = false := by rw [show (Px.ba [112, 114, 105, 110, 116]).toList = [112, 114, 105, 110, 116] by rw [toList_data]; rfl]; decide
  have e3 : ((Px.ba [112, 114, 105, 110, 116]).toList == [108, 97, 98, 101, 108]) = false := by rw [show (Px.ba [112, 114, 105, 110, 116]).toList = [112, 114, 105, 110, 116] by rw [toList_data]; rfl]; decide
  have e4 : ((Px.ba [112, 114, 105, 110, 116]).toList == [115, 101, 110, 100]) = false := by rw [show (Px.ba [112, 114, 105, 110, 116]).toList = [112, 114, 105, 110, 116] by rw [toList_data]; rfl]; decide
  have e5 : ((Px.ba [112, 114, 105, 110, 116]).toList == [114, 101, 99, 118]) = false := by rw [show (Px.ba [112, 114, 105, 110, 116]).toList = [112, 114, 105, 110, 116] by rw [toList_data]; rfl]; decide
  have e6 : ((Px.ba [112, 114, 105, 110, 116]).toList == [112, 114, 105, 110, 116]) = true := by rw [show (Px.ba [112, 114, 105, 110, 116]).toList = [112, 114, 105, 110, 116] by rw [toList_data]; rfl]; decide
  have e7 : ((Px.ba [112, 114, 105, 110, 116]).toList == [105, 102]) = false := by rw [show (Px.ba [112, 114, 105, 110, 116]).toList = [112, 114, 105, 110, 116] by rw [toList_data]; rfl]; decide
  have e8 : ((Px.ba [112, 114, 105, 110, 116]).toList == [114, 101, 112, 101, 97, 116]) = false := by rw [show (Px.ba [112, 114, 105, 110, 116]).toList = [112, 114, 105, 110, 116] by rw [toList_data]; rfl]; decide
  generalize Px.ba [112, 114, 105, 110, 116] = TX at *
  replace u1 : W3.cell? ⟨w.heap.size + 1, 1, none⟩ = some (.string TX) := HTW3.out.cell 1 rfl
  have x0_W3 : W3.cell? ⟨B8, 0, none⟩ = some (.int .i64 (0)) := HXW3.out.cell 0 rfl
  have x1_W3 : W3.cell? ⟨B8, 1, none⟩ = some (.string (⟨#[]⟩)) := HXW3.out.cell 1 rfl
  have x2_W3 : W3.cell? ⟨B8, 2, none⟩ = some (.string (⟨#[]⟩)) := HXW3.out.cell 2 rfl
  have x3_W3 : W3.cell? ⟨B8, 3, none⟩ = some (.int .i64 (0)) := HXW3.out.cell 3 rfl
  have x4_W3 : W3.cell? ⟨B8, 4, none⟩ = some (.int .i64 (0)) := HXW3.out.cell 4 rfl
  have x5_W3 : W3.cell? ⟨B8, 5, none⟩ = some (.int .i64 (0)) := HXW3.out.cell 5 rfl
  have x6_W3 : W3.cell? ⟨B8, 6, none⟩ = some (.string (⟨#[]⟩)) := HXW3.out.cell 6 rfl
  have x7_W3 : W3.cell? ⟨B8, 7, none⟩ = some (.slice none 0 0) := HXW3.out.cell 7 rfl
  have x8_W3 : W3.cell? ⟨B8, 8, none⟩ = some (.slice none 0 0) := HXW3.out.cell 8 rfl
  have x9_W3 : W3.cell? ⟨B8, 9, none⟩ = some (.slice none 0 0) := HXW3.out.cell 9 rfl
  have x10_W3 : W3.cell? ⟨B8, 10, none⟩ = some (.complex .f64 X Y) := HXW3.out.cell 10 rfl
  have r0_W3 : W3.cell? ⟨w.heap.size, 0, none⟩ = some (.int .i64 (0)) := HZW3.out.cell 0 rfl
  have r1_W3 : W3.cell? ⟨w.heap.size, 1, none⟩ = some (.string (⟨#[]⟩)) := HZW3.out.cell 1 rfl
  have r2_W3 : W3.cell? ⟨w.heap.size, 2, none⟩ = some (.string (⟨#[]⟩)) := HZW3.out.cell 2 rfl
  have r3_W3 : W3.cell? ⟨w.heap.size, 3, none⟩ = some (.int .i64 (0)) := HZW3.out.cell 3 rfl
  have r4_W3 : W3.cell? ⟨w.heap.size, 4, none⟩ = some (.int .i64 (0)) := HZW3.out.cell 4 rfl
  have r5_W3 : W3.cell? ⟨w.heap.size, 5, none⟩ = some (.int .i64 (0)) := HZW3.out.cell 5 rfl
  have r6_W3 : W3.cell? ⟨w.heap.size, 6, none⟩ = some (.string (⟨#[]⟩)) := HZW3.out.cell 6 rfl
  have r7_W3 : W3.cell? ⟨w.heap.size, 7, none⟩ = some (.slice none 0 0) := HZW3.out.cell 7 rfl
  have r8_W3 : W3.cell? ⟨w.heap.size, 8, none⟩ = some (.slice none 0 0) := HZW3.out.cell 8 rfl
  have r9_W3 : W3.cell? ⟨w.heap.size, 9, none⟩ = some (.slice none 0 0) := HZW3.out.cell 9 rfl
  have r10_W3 : W3.cell? ⟨w.heap.size, 10, none⟩ = some (.complex .f64 0 0) := HZW3.out.cell 10 rfl
  have xf_W3 : ∀ j, W3.frozen? ⟨B8, j, none⟩ = false := HXW3.out.fz
  have rf_W3 : ∀ j, W3.frozen? ⟨w.heap.size, j, none⟩ = false := HZW3.out.fz
  have xl_W3 : B8 < W3.heap.size := HXW3.out.lt
  have rl_W3 : w.heap.size < W3.heap.size := HZW3.out.lt
  obtain ⟨V1, hV1⟩ : ∃ W, (W3).setCell ⟨B8, 0, none⟩ (.int .i64 6) = W := ⟨_, rfl⟩
  have HXV1 : Hid (BoxS V1 B8 (⟨6, ⟨#[]⟩, ⟨#[]⟩, 0, 0, 0, ⟨#[]⟩, none, 0, 0, none, 0, 0, none, 0, 0, X, Y⟩ : Sv).cells) := by rw [← hV1]; exact ((HXW3.out).setv 0 [.int .i64 6] (⟨6, ⟨#[]⟩, ⟨#[]⟩, 0, 0, 0, ⟨#[]⟩, none, 0, 0, none, 0, 0, none, 0, 0, X, Y⟩ : Sv).cells (by show 0 + 1 ≤ 11; decide) rfl)
  have HZV1 : Hid (BoxS V1 w.heap.size (sv0 0 0).cells) := by rw [← hV1]; exact ((HZW3.out).apart hrB 0 [.int .i64 6])
  have HBV1 : Hid (But R w V1) := by rw [← hV1]; exact ((HBW3.out).sets (B := B8) (by omega) 0 [.int .i64 6])
  have HTV1 : Hid (BoxS V1 (w.heap.size + 1) [.int .i64 ((1 : Nat) : Int), .string TX, .int .i64 (nn : Int), .int .i64 (aa : Int)]) := by rw [← hV1]; exact ((HTW3.out).apart htB 0 [.int .i64 6])
  have uV1 : V1.cell? ⟨w.heap.size + 1, 1, none⟩ = some (.string TX) := HTV1.out.cell 1 rfl
  have HQV1 : Hid (Rq V1 R g cap ts (a + 1) false bad) := by rw [← hV1]; exact ((HQW3.out).sets hBR hBg 0 [.int .i64 6])
  obtain ⟨o2, m3, hp4⟩ : ∃ o1 m1, Px.read (left ts (a + 1)) = (o1, m1) := ⟨_, _, rfl⟩
  have HP13 : Hid (Px.read (left ts (a + 1)) = (o2, m3)) := hp4
  have NM : Hid _ := rwhole_any HQV1.out HAL2.out HOK.out.fit s o2 m3 hp4
  have HSF14 : Hid (left ts (ts.length - m3.length) = m3 ∧ Pp.Alive m3) := by
    have h1 := Pp.read_keeps (left ts (a + 1)) HAL2.out
    rw [hp4] at h1
    exact ⟨suf_left h1.1, h1.2⟩
  clear hp4
  go_wp2_with fail
  refine Calls.mono NM.out ?_
  rintro e w5 ⟨k6, n7, sx8, ax9, lx10, qx11, rfl, H12⟩
  have hbn := H12.out.1
  clear NM
  cases o2 with
  | none =>
    obtain ⟨fa22, hfa, hq⟩ := H12.out.2.2 rfl
    have HFA23 : Hid (fa22 < ts.length) := hfa
    have HXw5 : Hid (BoxS w5 B8 (⟨6, ⟨#[]⟩, ⟨#[]⟩, 0, 0, 0, ⟨#[]⟩, none, 0, 0, none, 0, 0, none, 0, 0, X, Y⟩ : Sv).cells) := HXV1.out.but hbn hBR
    have HZw5 : Hid (BoxS w5 w.heap.size (sv0 0 0).cells) := HZV1.out.but hbn hrR
    have HBw5 : Hid (But R w w5) := HBV1.out.then hbn
    have HTw5 : Hid (BoxS w5 (w.heap.size + 1) [.int .i64 ((1 : Nat) : Int), .string TX, .int .i64 (nn : Int), .int .i64 (aa : Int)]) := HTV1.out.but hbn htR
    have HQw5 : Hid (Rq w5 R g cap ts fa22 true (ts.length - m3.length)) := hq
    clear hbn
    have hP := HPO0.out
    rw [Pp.bind_none HP13.out] at hP
    simp only [Prod.mk.injEq] at hP
    have HPO24 : Hid (o = none ∧ m = m3) := ⟨hP.1.symm, hP.2.symm⟩
    clear hfa hq hP
    clear x0_W3 x1_W3 x2_W3 x3_W3 x4_W3 x5_W3 x6_W3 x7_W3 x8_W3 x9_W3 x10_W3 r0_W3 r1_W3 r2_W3 r3_W3 r4_W3 r5_W3 r6_W3 r7_W3 r8_W3 r9_W3 r10_W3 xf_W3 rf_W3 xl_W3 rl_W3
    have x0_w5 : w5.cell? ⟨B8, 0, none⟩ = some (.int .i64 (6)) := HXw5.out.cell 0 rfl
    have x1_w5 : w5.cell? ⟨B8, 1, none⟩ = some (.string (⟨#[]⟩)) := HXw5.out.cell 1 rfl
    have x2_w5 : w5.cell? ⟨B8, 2, none⟩ = some (.string (⟨#[]⟩)) := HXw5.out.cell 2 rfl
    have x3_w5 : w5.cell? ⟨B8, 3, none⟩ = some (.int .i64 (0)) := HXw5.out.cell 3 rfl
    have x4_w5 : w5.cell? ⟨B8, 4, none⟩ = some (.int .i64 (0)) := HXw5.out.cell 4 rfl
    have x5_w5 : w5.cell? ⟨B8, 5, none⟩ = some (.int .i64 (0)) := HXw5.out.cell 5 rfl
    have x6_w5 : w5.cell? ⟨B8, 6, none⟩ = some (.string (⟨#[]⟩)) := HXw5.out.cell 6 rfl
    have x7_w5 : w5.cell? ⟨B8, 7, none⟩ = some (.slice none 0 0) := HXw5.out.cell 7 rfl
    have x8_w5 : w5.cell? ⟨B8, 8, none⟩ = some (.slice none 0 0) := HXw5.out.cell 8 rfl
    have x9_w5 : w5.cell? ⟨B8, 9, none⟩ = some (.slice none 0 0) := HXw5.out.cell 9 rfl
    have x10_w5 : w5.cell? ⟨B8, 10, none⟩ = some (.complex .f64 X Y) := HXw5.out.cell 10 rfl
    have r0_w5 : w5.cell? ⟨w.heap.size, 0, none⟩ = some (.int .i64 (0)) := HZw5.out.cell 0 rfl
    have r1_w5 : w5.cell? ⟨w.heap.size, 1, none⟩ = some (.string (⟨#[]⟩)) := HZw5.out.cell 1 rfl
    have r2_w5 : w5.cell? ⟨w.heap.size, 2, none⟩ = some (.string (⟨#[]⟩)) := HZw5.out.cell 2 rfl
    have r3_w5 : w5.cell? ⟨w.heap.size, 3, none⟩ = some (.int .i64 (0)) := HZw5.out.cell 3 rfl
    have r4_w5 : w5.cell? ⟨w.heap.size, 4, none⟩ = some (.int .i64 (0)) := HZw5.out.cell 4 rfl
    have r5_w5 : w5.cell? ⟨w.heap.size, 5, none⟩ = some (.int .i64 (0)) := HZw5.out.cell 5 rfl
    have r6_w5 : w5.cell? ⟨w.heap.size, 6, none⟩ = some (.string (⟨#[]⟩)) := HZw5.out.cell 6 rfl
    have r7_w5 : w5.cell? ⟨w.heap.size, 7, none⟩ = some (.slice none 0 0) := HZw5.out.cell 7 rfl
    have r8_w5 : w5.cell? ⟨w.heap.size, 8, none⟩ = some (.slice none 0 0) := HZw5.out.cell 8 rfl
    have r9_w5 : w5.cell? ⟨w.heap.size, 9, none⟩ = some (.slice none 0 0) := HZw5.out.cell 9 rfl
    have r10_w5 : w5.cell? ⟨w.heap.size, 10, none⟩ = some (.complex .f64 0 0) := HZw5.out.cell 10 rfl
    have xf_w5 : ∀ j, w5.frozen? ⟨B8, j, none⟩ = false := HXw5.out.fz
    have rf_w5 : ∀ j, w5.frozen? ⟨w.heap.size, j, none⟩ = false := HZw5.out.fz
    have xl_w5 : B8 < w5.heap.size := HXw5.out.lt
    have rl_w5 : w.heap.size < w5.heap.size := HZw5.out.lt
    obtain ⟨V25, hV25⟩ : ∃ W, ((((w5).setCell ⟨B8, 4, none⟩ (.int .i64 k6)).setCell ⟨B8, 5, none⟩ (.int .i64 n7)).setCell ⟨B8, 6, none⟩ (.string sx8)).setCell ⟨B8, 7, none⟩ (.slice ax9 lx10 qx11) = W := ⟨_, rfl⟩
    have HXV25 : Hid (BoxS V25 B8 (⟨6, ⟨#[]⟩, ⟨#[]⟩, 0, k6, n7, sx8, ax9, lx10, qx11, none, 0, 0, none, 0, 0, X, Y⟩ : Sv).cells) := by rw [← hV25]; exact ((HXw5.out).setv 4 [.int .i64 k6, .int .i64 n7, .string sx8, .slice ax9 lx10 qx11] (⟨6, ⟨#[]⟩, ⟨#[]⟩, 0, k6, n7, sx8, ax9, lx10, qx11, none, 0, 0, none, 0, 0, X, Y⟩ : Sv).cells (by show 4 + 4 ≤ 11; decide) rfl)
    have HZV25 : Hid (BoxS V25 w.heap.size (sv0 0 0).cells) := by rw [← hV25]; exact ((HZw5.out).apart hrB 4 [.int .i64 k6, .int .i64 n7, .string sx8, .slice ax9 lx10 qx11])
    have HBV25 : Hid (But R w V25) := by rw [← hV25]; exact ((HBw5.out).sets (B := B8) (by omega) 4 [.int .i64 k6, .int .i64 n7, .string sx8, .slice ax9 lx10 qx11])
    have HTV25 : Hid (BoxS V25 (w.heap.size + 1) [.int .i64 ((1 : Nat) : Int), .string TX, .int .i64 (nn : Int), .int .i64 (aa : Int)]) := by rw [← hV25]; exact ((HTw5.out).apart htB 4 [.int .i64 k6, .int .i64 n7, .string sx8, .slice ax9 lx10 qx11])
    have uV25 : V25.cell? ⟨w.heap.size + 1, 1, none⟩ = some (.string TX) := HTV25.out.cell 1 rfl
    have HQV25 : Hid (Rq V25 R g cap ts fa22 true (ts.length - m3.length)) := by rw [← hV25]; exact ((HQw5.out).sets hBR hBg 4 [.int .i64 k6, .int .i64 n7, .string sx8, .slice ax9 lx10 qx11])
    have x0_V25 : V25.cell? ⟨B8, 0, none⟩ = some (.int .i64 (6)) := HXV25.out.cell 0 rfl
    have x1_V25 : V25.cell? ⟨B8, 1, none⟩ = some (.string (⟨#[]⟩)) := HXV25.out.cell 1 rfl
    have x2_V25 : V25.cell? ⟨B8, 2, none⟩ = some (.string (⟨#[]⟩)) := HXV25.out.cell 2 rfl
    have x3_V25 : V25.cell? ⟨B8, 3, none⟩ = some (.int .i64 (0)) := HXV25.out.cell 3 rfl
    have x4_V25 : V25.cell? ⟨B8, 4, none⟩ = some (.int .i64 (k6)) := HXV25.out.cell 4 rfl
    have x5_V25 : V25.cell? ⟨B8, 5, none⟩ = some (.int .i64 (n7)) := HXV25.out.cell 5 rfl
    have x6_V25 : V25.cell? ⟨B8, 6, none⟩ = some (.string (sx8)) := HXV25.out.cell 6 rfl
    have x7_V25 : V25.cell? ⟨B8, 7, none⟩ = some (.slice ax9 lx10 qx11) := HXV25.out.cell 7 rfl
    have x8_V25 : V25.cell? ⟨B8, 8, none⟩ = some (.slice none 0 0) := HXV25.out.cell 8 rfl
    have x9_V25 : V25.cell? ⟨B8, 9, none⟩ = some (.slice none 0 0) := HXV25.out.cell 9 rfl
    have x10_V25 : V25.cell? ⟨B8, 10, none⟩ = some (.complex .f64 X Y) := HXV25.out.cell 10 rfl
    have r0_V25 : V25.cell? ⟨w.heap.size, 0, none⟩ = some (.int .i64 (0)) := HZV25.out.cell 0 rfl
    have r1_V25 : V25.cell? ⟨w.heap.size, 1, none⟩ = some (.string (⟨#[]⟩)) := HZV25.out.cell 1 rfl
    have r2_V25 : V25.cell? ⟨w.heap.size, 2, none⟩ = some (.string (⟨#[]⟩)) := HZV25.out.cell 2 rfl
    have r3_V25 : V25.cell? ⟨w.heap.size, 3, none⟩ = some (.int .i64 (0)) := HZV25.out.cell 3 rfl
    have r4_V25 : V25.cell? ⟨w.heap.size, 4, none⟩ = some (.int .i64 (0)) := HZV25.out.cell 4 rfl
    have r5_V25 : V25.cell? ⟨w.heap.size, 5, none⟩ = some (.int .i64 (0)) := HZV25.out.cell 5 rfl
    have r6_V25 : V25.cell? ⟨w.heap.size, 6, none⟩ = some (.string (⟨#[]⟩)) := HZV25.out.cell 6 rfl
    have r7_V25 : V25.cell? ⟨w.heap.size, 7, none⟩ = some (.slice none 0 0) := HZV25.out.cell 7 rfl
    have r8_V25 : V25.cell? ⟨w.heap.size, 8, none⟩ = some (.slice none 0 0) := HZV25.out.cell 8 rfl
    have r9_V25 : V25.cell? ⟨w.heap.size, 9, none⟩ = some (.slice none 0 0) := HZV25.out.cell 9 rfl
    have r10_V25 : V25.cell? ⟨w.heap.size, 10, none⟩ = some (.complex .f64 0 0) := HZV25.out.cell 10 rfl
    have xf_V25 : ∀ j, V25.frozen? ⟨B8, j, none⟩ = false := HXV25.out.fz
    have rf_V25 : ∀ j, V25.frozen? ⟨w.heap.size, j, none⟩ = false := HZV25.out.fz
    have xl_V25 : B8 < V25.heap.size := HXV25.out.lt
    have rl_V25 : w.heap.size < V25.heap.size := HZV25.out.lt
    go_wp2_with fail
    obtain ⟨hO1, hO2⟩ := HPO24.out
    subst hO1 hO2
    refine reds_end (⟨6, ⟨#[]⟩, ⟨#[]⟩, 0, k6, n7, sx8, ax9, lx10, qx11, none, 0, 0, none, 0, 0, X, Y⟩ : Sv) rfl HZV25.out HBV25.out hRw HGW.out ?hsome (fun _ => ⟨fa22, HFA23.out, ?_⟩)
    case hsome => exact fun x hx => by cases hx
    exact HQV25.out
  | some y15 =>
    obtain ⟨rfl, rfl, rfl, hT, hq⟩ := H12.out.2.1 y15 rfl
    obtain ⟨b20, hbb⟩ : ∃ b, ts.length - m3.length = b := ⟨_, rfl⟩
    rw [hbb] at hq HSF14
    clear hbb
    have HXw5 : Hid (BoxS w5 B8 (⟨6, ⟨#[]⟩, ⟨#[]⟩, 0, 0, 0, ⟨#[]⟩, none, 0, 0, none, 0, 0, none, 0, 0, X, Y⟩ : Sv).cells) := HXV1.out.but hbn hBR
    have HZw5 : Hid (BoxS w5 w.heap.size (sv0 0 0).cells) := HZV1.out.but hbn hrR
    have HBw5 : Hid (But R w w5) := HBV1.out.then hbn
    have HTw5 : Hid (BoxS w5 (w.heap.size + 1) [.int .i64 ((1 : Nat) : Int), .string TX, .int .i64 (nn : Int), .int .i64 (aa : Int)]) := HTV1.out.but hbn htR
    have HQw5 : Hid (Rq w5 R g cap ts b20 false bad) := hq
    have HRE19_w5 : Hid (ExsD w5 (Dk B8 w5) y15.of (.slice ax9 lx10 qx11)) := ex_new hT HXV1.out.lt
    clear hbn
    have HAL16 : Hid (Pp.Alive (left ts b20)) := by rw [HSF14.out.1]; exact HSF14.out.2
    have HLT17 : Hid (b20 < ts.length) := alive_lt HAL16.out
    have hP := HPO0.out
    rw [Pp.bind_some HP13.out, ← HSF14.out.1] at hP
    have HPO18 : Hid _ := hP
    clear hT hq hP
    clear x0_W3 x1_W3 x2_W3 x3_W3 x4_W3 x5_W3 x6_W3 x7_W3 x8_W3 x9_W3 x10_W3 r0_W3 r1_W3 r2_W3 r3_W3 r4_W3 r5_W3 r6_W3 r7_W3 r8_W3 r9_W3 r10_W3 xf_W3 rf_W3 xl_W3 rl_W3
    have x0_w5 : w5.cell? ⟨B8, 0, none⟩ = some (.int .i64 (6)) := HXw5.out.cell 0 rfl
    have x1_w5 : w5.cell? ⟨B8, 1, none⟩ = some (.string (⟨#[]⟩)) := HXw5.out.cell 1 rfl
    have x2_w5 : w5.cell? ⟨B8, 2, none⟩ = some (.string (⟨#[]⟩)) := HXw5.out.cell 2 rfl
    have x3_w5 : w5.cell? ⟨B8, 3, none⟩ = some (.int .i64 (0)) := HXw5.out.cell 3 rfl
    have x4_w5 : w5.cell? ⟨B8, 4, none⟩ = some (.int .i64 (0)) := HXw5.out.cell 4 rfl
    have x5_w5 : w5.cell? ⟨B8, 5, none⟩ = some (.int .i64 (0)) := HXw5.out.cell 5 rfl
    have x6_w5 : w5.cell? ⟨B8, 6, none⟩ = some (.string (⟨#[]⟩)) := HXw5.out.cell 6 rfl
    have x7_w5 : w5.cell? ⟨B8, 7, none⟩ = some (.slice none 0 0) := HXw5.out.cell 7 rfl
    have x8_w5 : w5.cell? ⟨B8, 8, none⟩ = some (.slice none 0 0) := HXw5.out.cell 8 rfl
    have x9_w5 : w5.cell? ⟨B8, 9, none⟩ = some (.slice none 0 0) := HXw5.out.cell 9 rfl
    have x10_w5 : w5.cell? ⟨B8, 10, none⟩ = some (.complex .f64 X Y) := HXw5.out.cell 10 rfl
    have r0_w5 : w5.cell? ⟨w.heap.size, 0, none⟩ = some (.int .i64 (0)) := HZw5.out.cell 0 rfl
    have r1_w5 : w5.cell? ⟨w.heap.size, 1, none⟩ = some (.string (⟨#[]⟩)) := HZw5.out.cell 1 rfl
    have r2_w5 : w5.cell? ⟨w.heap.size, 2, none⟩ = some (.string (⟨#[]⟩)) := HZw5.out.cell 2 rfl
    have r3_w5 : w5.cell? ⟨w.heap.size, 3, none⟩ = some (.int .i64 (0)) := HZw5.out.cell 3 rfl
    have r4_w5 : w5.cell? ⟨w.heap.size, 4, none⟩ = some (.int .i64 (0)) := HZw5.out.cell 4 rfl
    have r5_w5 : w5.cell? ⟨w.heap.size, 5, none⟩ = some (.int .i64 (0)) := HZw5.out.cell 5 rfl
    have r6_w5 : w5.cell? ⟨w.heap.size, 6, none⟩ = some (.string (⟨#[]⟩)) := HZw5.out.cell 6 rfl
    have r7_w5 : w5.cell? ⟨w.heap.size, 7, none⟩ = some (.slice none 0 0) := HZw5.out.cell 7 rfl
    have r8_w5 : w5.cell? ⟨w.heap.size, 8, none⟩ = some (.slice none 0 0) := HZw5.out.cell 8 rfl
    have r9_w5 : w5.cell? ⟨w.heap.size, 9, none⟩ = some (.slice none 0 0) := HZw5.out.cell 9 rfl
    have r10_w5 : w5.cell? ⟨w.heap.size, 10, none⟩ = some (.complex .f64 0 0) := HZw5.out.cell 10 rfl
    have xf_w5 : ∀ j, w5.frozen? ⟨B8, j, none⟩ = false := HXw5.out.fz
    have rf_w5 : ∀ j, w5.frozen? ⟨w.heap.size, j, none⟩ = false := HZw5.out.fz
    have xl_w5 : B8 < w5.heap.size := HXw5.out.lt
    have rl_w5 : w.heap.size < w5.heap.size := HZw5.out.lt
    obtain ⟨V21, hV21⟩ : ∃ W, ((((w5).setCell ⟨B8, 4, none⟩ (.int .i64 y15.kind)).setCell ⟨B8, 5, none⟩ (.int .i64 y15.n)).setCell ⟨B8, 6, none⟩ (.string y15.name)).setCell ⟨B8, 7, none⟩ (.slice ax9 lx10 qx11) = W := ⟨_, rfl⟩
    have HXV21 : Hid (BoxS V21 B8 (⟨6, ⟨#[]⟩, ⟨#[]⟩, 0, y15.kind, y15.n, y15.name, ax9, lx10, qx11, none, 0, 0, none, 0, 0, X, Y⟩ : Sv).cells) := by rw [← hV21]; exact ((HXw5.out).setv 4 [.int .i64 y15.kind, .int .i64 y15.n, .string y15.name, .slice ax9 lx10 qx11] (⟨6, ⟨#[]⟩, ⟨#[]⟩, 0, y15.kind, y15.n, y15.name, ax9, lx10, qx11, none, 0, 0, none, 0, 0, X, Y⟩ : Sv).cells (by show 4 + 4 ≤ 11; decide) rfl)
    have HZV21 : Hid (BoxS V21 w.heap.size (sv0 0 0).cells) := by rw [← hV21]; exact ((HZw5.out).apart hrB 4 [.int .i64 y15.kind, .int .i64 y15.n, .string y15.name, .slice ax9 lx10 qx11])
    have HBV21 : Hid (But R w V21) := by rw [← hV21]; exact ((HBw5.out).sets (B := B8) (by omega) 4 [.int .i64 y15.kind, .int .i64 y15.n, .string y15.name, .slice ax9 lx10 qx11])
    have HTV21 : Hid (BoxS V21 (w.heap.size + 1) [.int .i64 ((1 : Nat) : Int), .string TX, .int .i64 (nn : Int), .int .i64 (aa : Int)]) := by rw [← hV21]; exact ((HTw5.out).apart htB 4 [.int .i64 y15.kind, .int .i64 y15.n, .string y15.name, .slice ax9 lx10 qx11])
    have uV21 : V21.cell? ⟨w.heap.size + 1, 1, none⟩ = some (.string TX) := HTV21.out.cell 1 rfl
    have HQV21 : Hid (Rq V21 R g cap ts b20 false bad) := by rw [← hV21]; exact ((HQw5.out).sets hBR hBg 4 [.int .i64 y15.kind, .int .i64 y15.n, .string y15.name, .slice ax9 lx10 qx11])
    have HRE19_V21 : Hid (ExsD V21 (Dk B8 V21) y15.of (.slice ax9 lx10 qx11)) := by rw [← hV21]; exact (ex_set HRE19_w5.out 4 [.int .i64 y15.kind, .int .i64 y15.n, .string y15.name, .slice ax9 lx10 qx11])
    have x0_V21 : V21.cell? ⟨B8, 0, none⟩ = some (.int .i64 (6)) := HXV21.out.cell 0 rfl
    have x1_V21 : V21.cell? ⟨B8, 1, none⟩ = some (.string (⟨#[]⟩)) := HXV21.out.cell 1 rfl
    have x2_V21 : V21.cell? ⟨B8, 2, none⟩ = some (.string (⟨#[]⟩)) := HXV21.out.cell 2 rfl
    have x3_V21 : V21.cell? ⟨B8, 3, none⟩ = some (.int .i64 (0)) := HXV21.out.cell 3 rfl
    have x4_V21 : V21.cell? ⟨B8, 4, none⟩ = some (.int .i64 (y15.kind)) := HXV21.out.cell 4 rfl
    have x5_V21 : V21.cell? ⟨B8, 5, none⟩ = some (.int .i64 (y15.n)) := HXV21.out.cell 5 rfl
    have x6_V21 : V21.cell? ⟨B8, 6, none⟩ = some (.string (y15.name)) := HXV21.out.cell 6 rfl
    have x7_V21 : V21.cell? ⟨B8, 7, none⟩ = some (.slice ax9 lx10 qx11) := HXV21.out.cell 7 rfl
    have x8_V21 : V21.cell? ⟨B8, 8, none⟩ = some (.slice none 0 0) := HXV21.out.cell 8 rfl
    have x9_V21 : V21.cell? ⟨B8, 9, none⟩ = some (.slice none 0 0) := HXV21.out.cell 9 rfl
    have x10_V21 : V21.cell? ⟨B8, 10, none⟩ = some (.complex .f64 X Y) := HXV21.out.cell 10 rfl
    have r0_V21 : V21.cell? ⟨w.heap.size, 0, none⟩ = some (.int .i64 (0)) := HZV21.out.cell 0 rfl
    have r1_V21 : V21.cell? ⟨w.heap.size, 1, none⟩ = some (.string (⟨#[]⟩)) := HZV21.out.cell 1 rfl
    have r2_V21 : V21.cell? ⟨w.heap.size, 2, none⟩ = some (.string (⟨#[]⟩)) := HZV21.out.cell 2 rfl
    have r3_V21 : V21.cell? ⟨w.heap.size, 3, none⟩ = some (.int .i64 (0)) := HZV21.out.cell 3 rfl
    have r4_V21 : V21.cell? ⟨w.heap.size, 4, none⟩ = some (.int .i64 (0)) := HZV21.out.cell 4 rfl
    have r5_V21 : V21.cell? ⟨w.heap.size, 5, none⟩ = some (.int .i64 (0)) := HZV21.out.cell 5 rfl
    have r6_V21 : V21.cell? ⟨w.heap.size, 6, none⟩ = some (.string (⟨#[]⟩)) := HZV21.out.cell 6 rfl
    have r7_V21 : V21.cell? ⟨w.heap.size, 7, none⟩ = some (.slice none 0 0) := HZV21.out.cell 7 rfl
    have r8_V21 : V21.cell? ⟨w.heap.size, 8, none⟩ = some (.slice none 0 0) := HZV21.out.cell 8 rfl
    have r9_V21 : V21.cell? ⟨w.heap.size, 9, none⟩ = some (.slice none 0 0) := HZV21.out.cell 9 rfl
    have r10_V21 : V21.cell? ⟨w.heap.size, 10, none⟩ = some (.complex .f64 0 0) := HZV21.out.cell 10 rfl
    have xf_V21 : ∀ j, V21.frozen? ⟨B8, j, none⟩ = false := HXV21.out.fz
    have rf_V21 : ∀ j, V21.frozen? ⟨w.heap.size, j, none⟩ = false := HZV21.out.fz
    have xl_V21 : B8 < V21.heap.size := HXV21.out.lt
    have rl_V21 : w.heap.size < V21.heap.size := HZV21.out.lt
    go_wp2_with fail
    have hP := HPO18.out
    simp only [Pp.ret, Prod.mk.injEq] at hP
    obtain ⟨hO1, hO2⟩ := hP
    subst hO1 hO2
    refine reds_end (⟨6, ⟨#[]⟩, ⟨#[]⟩, 0, y15.kind, y15.n, y15.name, ax9, lx10, qx11, none, 0, 0, none, 0, 0, X, Y⟩ : Sv) rfl HZV21.out HBV21.out hRw HGW.out (fun x hx => ?_) (fun hx => by cases hx)
    cases hx
    refine ⟨⟨rfl, rfl, rfl, rfl, rfl, rfl, rfl, rfl, rfl, ex_fin HRE19_V21.out (by omega), StsD.nil' _ _, StsD.nil' _ _⟩, ?_⟩
    rw [show ts.length - (left ts b20).length = b20 by rw [left_len]; have := HLT17.out; omega]
    exact HQV21.out
end Go.Proofs.Ytnfkjmafhaecgaa
