/- Sn5 -/
import Derived.Test.YtnfkjmafhaecgaaYSa

namespace Go.Proofs.Ytnfkjmafhaecgaa
open Go.RowKit
attribute [local go_sem] run_store_complex
set_option maxRecDepth 100000 in
set_option maxHeartbeats 8000000 in
theorem rstmt_repeat (deep : Int) (hd0 : 0 ≤ deep) (hd8 : deep ≤ 8) (blk : Pp.Pl → Pp.R (List St)) (HB : QB (deep + 1) blk) {R g cap : Nat} {s : ByteArray} {ts : List Lx.Tk} {a bad : Nat} {w : World} (h : Rq w R g cap ts a false bad) (hal : Pp.Alive (left ts a)) (hok : TkOk s ts) (o : Option St) (m : List Lx.Core) (htx : (Px.hd (left ts a)).2.1 = [114, 101, 112, 101, 97, 116]) (hp : Pp.stmt (plOf s ts) (blk (plOf s ts)) (left ts a) = (o, m)) :
    Calls Try.prog 62 #[.pointer (some ⟨R, 0, none⟩), .string s, .int .i64 deep] w fun e w' => RedS R g cap ts bad w o m e w' := by
  have ha := alive_lt hal
  have HR : Hid (Rq w R g cap ts a false bad) := h
  have hRw := h.rlt
  have hgw := h.lt
  have c0 := h.c0
  have c1 := h.c1
  have z1 := h.z 1
  have hf := h.few
  have hwr : IntKind.i64.wrap ((a : Int) + 1) = (a : Int) + 1 := by rw [IntKind.wrap_i64]; omega
  have hhd := hd_in ts a ha
  rw [hhd] at htx
  replace htx : Hid (ts[a].text = [114, 101, 112, 101, 97, 116]) := htx
  have hmem := List.getElem_mem ha
  have hw1 : ts[a].kind = 1 → Lx.isWord ts[a].text = true := hok.fit _ hmem
  have hkd : Hid (ts[a].kind = kindOf ts[a].text) := hok.kd _ hmem
  have HPL : Hid (∀ W, Calls Try.prog 50 #[.string s, .int .i64 (ts[a].at' : Int)] W fun e w' => e = .returned (.complex .f64 (lineW s ts[a].at') (colW s ts[a].at')) ∧ w' = W) := fun W => place_in s _ hok.sz (hok.at' _ hmem) W
  have hpl : plOf s ts (left ts a).length = (lineW s ts[a].at', colW s ts[a].at') := plOf_at s ts a ha
  obtain ⟨t0, t1, t2, t3⟩ := h.tok a ha
  have hai : (a : Int) < (ts.length : Int) := by omega
  have HA : Hid (a < ts.length) := ha
  have HAL : Hid (Pp.Alive (left ts a)) := hal
  have HOK : Hid (TkOk s ts) := hok
  have HHD : Hid _ := hhd
  have HPP : Hid _ := hpl
  unfold Pp.stmt at hp
  rw [hpl, hhd] at hp
  generalize lineW s ts[a].at' = X at *
  generalize colW s ts[a].at' = Y at *
  generalize ts[a].kind = kd at *
  generalize ts[a].text = tx at *
  generalize ts[a].n = nn at *
  generalize ts[a].at' = aa at *
  obtain ⟨N, hN⟩ : ∃ N, ts.length = N := ⟨_, rfl⟩
  have HN : Hid (ts.length = N) := hN
  rw [hN] at c0 hf hai
  clear h hal hok ha hN hmem hpl
  go_enter Try.func62, Try.ntmps62
  go_wp2_with fail
  go_region
  obtain ⟨W1, hW1⟩ : ∃ W1, ((sz w).alloc (.cells #[.int .i64 (kd : Int), .string (Px.ba tx), .int .i64 (nn : Int), .int .i64 (aa : Int)] 99)).drew = W1 := ⟨_, rfl⟩
  have hkw : Kept w (sz w) := (Kept.refl _).al _
  have hk1 : Kept (sz w) W1 := by rw [← hW1]; exact ((Kept.refl _).al _).dr
  have KW1 : Hid (Kept w W1) := hkw.then hk1
  have hbz : BoxS W1 w.heap.size (sv0 0 0).cells := (box_of (heap_alloc_new w _)).kept hk1
  have hbt : BoxS W1 (w.heap.size + 1) [.int .i64 (kd : Int), .string (Px.ba tx), .int .i64 (nn : Int), .int .i64 (aa : Int)] := by
    have h1 : BoxS ((sz w).alloc (.cells #[.int .i64 (kd : Int), .string (Px.ba tx), .int .i64 (nn : Int), .int .i64 (aa : Int)] 99)) (sz w).heap.size [.int .i64 (kd : Int), .string (Px.ba tx), .int .i64 (nn : Int), .int .i64 (aa : Int)] := box_of (heap_alloc_new (sz w) _)
    rw [show (sz w).heap.size = w.heap.size + 1 by simp] at h1
    rw [← hW1]
    exact h1.kept (Kept.refl _).dr
  have u3 : W1.cell? ⟨w.heap.size + 1, 3, none⟩ = some (.int .i64 (aa : Int)) := hbt.cell 3 rfl
  have hlt1 : w.heap.size + 1 < W1.heap.size := hbt.lt
  rw [hW1]
  clear hW1 hk1 hkw c0 t0 t1 t2 t3
  go_wp2_with fail
  refine (HPL.out _).mono ?_
  rintro e W1 ⟨rfl, rfl⟩
  obtain ⟨B8, hB8⟩ : ∃ B, W1.heap.size = B := ⟨_, rfl⟩
  obtain ⟨W2, hW2⟩ : ∃ W, W1.alloc (.cells #[.int .i64 0, .string ⟨#[]⟩, .string ⟨#[]⟩, .int .i64 0, .int .i64 0, .int .i64 0, .string ⟨#[]⟩, .slice none 0 0, .slice none 0 0, .slice none 0 0, .complex .f64 X Y] 46) = W := ⟨_, rfl⟩
  have hk2 : Kept W1 W2 := by rw [← hW2]; exact (Kept.refl _).al _
  have KW2 : Hid (Kept w W2) := KW1.out.then hk2
  have HQ2 : Hid (Rq W2 R g cap ts a false bad) := HR.out.kept KW2.out
  have hx : BoxS W2 B8 (⟨0, ⟨#[]⟩, ⟨#[]⟩, 0, 0, 0, ⟨#[]⟩, none, 0, 0, none, 0, 0, none, 0, 0, X, Y⟩ : Sv).cells := by rw [← hW2, ← hB8]; exact box_of (heap_alloc_new W1 _)
  have HXW2 : Hid (BoxS W2 B8 (⟨0, ⟨#[]⟩, ⟨#[]⟩, 0, 0, 0, ⟨#[]⟩, none, 0, 0, none, 0, 0, none, 0, 0, X, Y⟩ : Sv).cells) := hx
  have hzz : BoxS W2 w.heap.size (sv0 0 0).cells := hbz.kept hk2
  have HZW2 : Hid (BoxS W2 w.heap.size (sv0 0 0).cells) := hzz
  have x0 : W2.cell? ⟨B8, 0, none⟩ = some (.int .i64 (0)) := hx.cell 0 rfl
  have x1 : W2.cell? ⟨B8, 1, none⟩ = some (.string (⟨#[]⟩)) := hx.cell 1 rfl
  have x2 : W2.cell? ⟨B8, 2, none⟩ = some (.string (⟨#[]⟩)) := hx.cell 2 rfl
  have x3 : W2.cell? ⟨B8, 3, none⟩ = some (.int .i64 (0)) := hx.cell 3 rfl
  have x4 : W2.cell? ⟨B8, 4, none⟩ = some (.int .i64 (0)) := hx.cell 4 rfl
  have x5 : W2.cell? ⟨B8, 5, none⟩ = some (.int .i64 (0)) := hx.cell 5 rfl
  have x6 : W2.cell? ⟨B8, 6, none⟩ = some (.string (⟨#[]⟩)) := hx.cell 6 rfl
  have x7 : W2.cell? ⟨B8, 7, none⟩ = some (.slice none 0 0) := hx.cell 7 rfl
  have x8 : W2.cell? ⟨B8, 8, none⟩ = some (.slice none 0 0) := hx.cell 8 rfl
  have x9 : W2.cell? ⟨B8, 9, none⟩ = some (.slice none 0 0) := hx.cell 9 rfl
  have x10 : W2.cell? ⟨B8, 10, none⟩ = some (.complex .f64 X Y) := hx.cell 10 rfl
  have r0 : W2.cell? ⟨w.heap.size, 0, none⟩ = some (.int .i64 (0)) := hzz.cell 0 rfl
  have r1 : W2.cell? ⟨w.heap.size, 1, none⟩ = some (.string (⟨#[]⟩)) := hzz.cell 1 rfl
  have r2 : W2.cell? ⟨w.heap.size, 2, none⟩ = some (.string (⟨#[]⟩)) := hzz.cell 2 rfl
  have r3 : W2.cell? ⟨w.heap.size, 3, none⟩ = some (.int .i64 (0)) := hzz.cell 3 rfl
  have r4 : W2.cell? ⟨w.heap.size, 4, none⟩ = some (.int .i64 (0)) := hzz.cell 4 rfl
  have r5 : W2.cell? ⟨w.heap.size, 5, none⟩ = some (.int .i64 (0)) := hzz.cell 5 rfl
  have r6 : W2.cell? ⟨w.heap.size, 6, none⟩ = some (.string (⟨#[]⟩)) := hzz.cell 6 rfl
  have r7 : W2.cell? ⟨w.heap.size, 7, none⟩ = some (.slice none 0 0) := hzz.cell 7 rfl
  have r8 : W2.cell? ⟨w.heap.size, 8, none⟩ = some (.slice none 0 0) := hzz.cell 8 rfl
  have r9 : W2.cell? ⟨w.heap.size, 9, none⟩ = some (.slice none 0 0) := hzz.cell 9 rfl
  have r10 : W2.cell? ⟨w.heap.size, 10, none⟩ = some (.complex .f64 0 0) := hzz.cell 10 rfl
  have xf : ∀ j, W2.frozen? ⟨B8, j, none⟩ = false := hx.fz
  have rf : ∀ j, W2.frozen? ⟨w.heap.size, j, none⟩ = false := hzz.fz
  have xl : B8 < W2.heap.size := hx.lt
  have rl : w.heap.size < W2.heap.size := hzz.lt
  clear hx hzz
  have htk : BoxS W2 (w.heap.size + 1) [.int .i64 (kd : Int), .string (Px.ba tx), .int .i64 (nn : Int), .int .i64 (aa : Int)] := hbt.kept hk2
  have HTW2 : Hid (BoxS W2 (w.heap.size + 1) [.int .i64 (kd : Int), .string (Px.ba tx), .int .i64 (nn : Int), .int .i64 (aa : Int)]) := htk
  have u0 : W2.cell? ⟨w.heap.size + 1, 0, none⟩ = some (.int .i64 (kd : Int)) := htk.cell 0 rfl
  have u1 : W2.cell? ⟨w.heap.size + 1, 1, none⟩ = some (.string (Px.ba tx)) := htk.cell 1 rfl
  clear htk
  have hR2 := HQ2.out.rlt
  replace c1 := HQ2.out.c1
  replace z1 := HQ2.out.z 1
  have hBR : B8 ≠ R := by omega
  have hBg : B8 ≠ g := by omega
  have hBw : w.heap.size + 1 < B8 := by omega
  have hrR : w.heap.size ≠ R := by omega
  have htR : w.heap.size + 1 ≠ R := by omega
  have hrB : w.heap.size ≠ B8 := by omega
  have htB : w.heap.size + 1 ≠ B8 := by omega
  have HGW : Hid (g < w.heap.size) := hgw
  have LF : Hid (ts.length - (left ts a).length = a) := by show _ = _; rw [left_len]; have := HA.out; omega
  clear hbz hbt u3 hk2 hgw hlt1
  have h1 : kd = 1 := by rw [hkd.out, htx.out]; decide
  have hal2 : Pp.Alive (left ts (a + 1)) := by
    have := HAL.out.tail (.inl (by rw [hhd, h1]; show (1 : Nat) ≠ 4; decide))
    rwa [left_tail] at this
  have HAL2 : Hid (Pp.Alive (left ts (a + 1))) := hal2
  have HA2 : Hid (a + 1 < ts.length) := alive_lt hal2
  obtain ⟨W3, hW3⟩ : ∃ W, W2.setCell ⟨R, 1, none⟩ (.int .i64 ((a : Int) + 1)) = W := ⟨_, rfl⟩
  have hq3 := HQ2.out.at' (a + 1) (Nat.le_of_lt HA2.out)
  rw [show ((a + 1 : Nat) : Int) = (a : Int) + 1 by omega, hW3] at hq3
  have HQW3 : Hid (Rq W3 R g cap ts (a + 1) false bad) := hq3
  have hb23 : But R W2 W3 := by rw [← hW3]; exact (But.refl _ _).set _ _
  have HBW3 : Hid (But R w W3) := (But.of KW2.out).then hb23
  have HXW3 : Hid (BoxS W3 B8 (⟨0, ⟨#[]⟩, ⟨#[]⟩, 0, 0, 0, ⟨#[]⟩, none, 0, 0, none, 0, 0, none, 0, 0, X, Y⟩ : Sv).cells) := HXW2.out.but hb23 hBR
  have HZW3 : Hid (BoxS W3 w.heap.size (sv0 0 0).cells) := HZW2.out.but hb23 hrR
  have HTW3 : Hid (BoxS W3 (w.heap.size + 1) [.int .i64 (kd : Int), .string (Px.ba tx), .int .i64 (nn : Int), .int .i64 (aa : Int)]) := HTW2.out.but hb23 htR
  subst h1
  clear hq3 hb23 hal2 hw1 x0 x1 x2 x3 x4 x5 x6 x7 x8 x9 x10 r0 r1 r2 r3 r4 r5 r6 r7 r8 r9 r10 xf rf xl rl
  have htx1 := htx.out
  subst htx1
  clear htx
  have hP : Pp.bind (Pp.number 9) (fun n => Pp.bind (blk (plOf s ts)) fun b => Pp.ret (St.mk 8 Px.e0 Px.e0 n ex0 b [] X Y)) (left ts (a + 1)) = (o, m) := by
    have : Pp.behind (blk (plOf s ts)) 8 (X, Y) (left ts a).tail = (o, m) := hp
    rw [left_tail] at this
    exact this
  have HPO0 : Hid _ := hP
  have hRB : R < B8 := by omega
  clear hp hP hhd hkd
  have e0 : ((Px.ba [114, 101, 112, 101, 97, 116]).toList == [108, 111, 99, 107]) = false := by rw [show (Px.ba [114, 101, 112, 101, 97, 116]).toList = [114, 101, 112, 101, 97, 116] by rw [toList_data]; rfl]; decide
  have e1 : ((Px.ba [114, 101, 112, 101, 97, 116]).toList == [117, 110, 108, 111, 99, 107]) = false := by rw [show (Px.ba [114, 101, 112, 101, 97, 116]).toList = [114, 101, 112, 101, 97, 116] by rw [toList_data]; rfl]; decide
  have e2 : ((Px.ba [114, 101, 112, 101, 97, 116]).toList == [103, 111, 116, 111]) = false := by rw [show (Px.ba [114, 101, 112, 101, 97, 116]).toList = [114, 101, 112, 101, 97, 116] by rw [toList_data]; rfl]; decide
  have e3 : ((Px.ba [114, 101, 112, 101, 97, 116]).toList == [108, 97, 98, 101, 108]) = false := by rw [show (Px.ba [114, 101, 112, 101, 97, 116]).toList = [114, 101, 112, 101, 97, 116] by rw [toList_data]; rfl]; decide
  have e4 : ((Px.ba [114, 101, 112, 101, 97, 116]).toList == [115, 101, 110, 100]) = false := by rw [show (Px.ba [114, 101, 112, 101, 97, 116]).toList = [114, 101, 112, 101, 97, 116] by rw [toList_data]; rfl]; decide
  have e5 : ((Px.ba [114, 101, 112, 101, 97, 116]).toList == [114, 101, 99, 118]) = false := by rw [show (Px.ba [114, 101, 112, 101, 97, 116]).toList = [114, 101, 112, 101, 97, 116] by rw [toList_data]; rfl]; decide
  have e6 : ((Px.ba [114, 101, 112, 101, 97, 116]).toList == [112, 114, 105, 110, 116]) = false := by rw [show (Px.ba [114, 101, 112, 101, 97, 116]).toList = [114, 101, 112, 101, 97, 116] by rw [toList_data]; rfl]; decide
  have e7 : ((Px.ba [114, 101, 112, 101, 97, 116]).toList == [105, 102]) = false := by rw [show (Px.ba [114, 101, 112, 101, 97, 116]).toList = [114, 101, 112, 101, 97, 116] by rw [toList_data]; rfl]; decide
  have e8 : ((Px.ba [114, 101, 112, 101, 97, 116]).toList == [114, 101, 112, 101, 97, 116]) = true := by rw [show (Px.ba [114, 101, 112, 101, 97, 116]).toList = [114, 101, 112, 101, 97, 116] by rw [toList_data]; rfl]; decide
  generalize Px.ba [114, 101, 112, 101, 97, 116] = TX at *
  replace u1 : W3.cell? ⟨w.heap.size + 1, 1, none⟩ = some (.string TX) := HTW3.out.cell 1 rfl
  have hwd : IntKind.i64.wrap (deep + 1) = deep + 1 := by rw [IntKind.wrap_i64]; omega
  have HBB : Hid (QB (deep + 1) blk) := HB
  clear HB
  have x0_W3 : W3.cell? ⟨B8, 0, none⟩ = some (.int .i64 (0)) := HXW3.out.cell 0 rfl
  have x1_W3 : W3.cell? ⟨B8, 1, none⟩ = some (.string (⟨#[]⟩)) := HXW3.out.cell 1 rfl
  have x2_W3 : W3.cell? ⟨B8, 2, none⟩ = some (.string (⟨#[]⟩)) := HXW3.out.cell 2 rfl
  have x3_W3 : W3.cell? ⟨B8, 3, none⟩ = some (.int .i64 (0)) := HXW3.out.cell 3 rfl
  have x4_W3 : W3.cell? ⟨B8, 4, none⟩ = some (.int .i64 (0)) := HXW3.out.cell 4 rfl
  have x5_W3 : W3.cell? ⟨B8, 5, none⟩ = some (.int .i64 (0)) := HXW3.out.cell 5 rfl
  have x6_W3 : W3.cell? ⟨B8, 6, none⟩ = some (.string (⟨#[]⟩)) := HXW3.out.cell 6 rfl
  have x7_W3 : W3.cell? ⟨B8, 7, none⟩ = some (.slice none 0 0) := HXW3.out.cell 7 rfl
  have x8_W3 : W3.cell? ⟨B8, 8, none⟩ = some (.slice none 0 0) := HXW3.out.cell 8 rfl
  have x9_W3 : W3.cell? ⟨B8, 9, none⟩ = some (.slice none 0 0) := HXW3.out.cell 9 rfl
  have x10_W3 : W3.cell? ⟨B8, 10, none⟩ = some (.complex .f64 X Y) := HXW3.out.cell 10 rfl
  have r0_W3 : W3.cell? ⟨w.heap.size, 0, none⟩ = some (.int .i64 (0)) := HZW3.out.cell 0 rfl
  have r1_W3 : W3.cell? ⟨w.heap.size, 1, none⟩ = some (.string (⟨#[]⟩)) := HZW3.out.cell 1 rfl
  have r2_W3 : W3.cell? ⟨w.heap.size, 2, none⟩ = some (.string (⟨#[]⟩)) := HZW3.out.cell 2 rfl
  have r3_W3 : W3.cell? ⟨w.heap.size, 3, none⟩ = some (.int .i64 (0)) := HZW3.out.cell 3 rfl
  have r4_W3 : W3.cell? ⟨w.heap.size, 4, none⟩ = some (.int .i64 (0)) := HZW3.out.cell 4 rfl
  have r5_W3 : W3.cell? ⟨w.heap.size, 5, none⟩ = some (.int .i64 (0)) := HZW3.out.cell 5 rfl
  have r6_W3 : W3.cell? ⟨w.heap.size, 6, none⟩ = some (.string (⟨#[]⟩)) := HZW3.out.cell 6 rfl
  have r7_W3 : W3.cell? ⟨w.heap.size, 7, none⟩ = some (.slice none 0 0) := HZW3.out.cell 7 rfl
  have r8_W3 : W3.cell? ⟨w.heap.size, 8, none⟩ = some (.slice none 0 0) := HZW3.out.cell 8 rfl
  have r9_W3 : W3.cell? ⟨w.heap.size, 9, none⟩ = some (.slice none 0 0) := HZW3.out.cell 9 rfl
  have r10_W3 : W3.cell? ⟨w.heap.size, 10, none⟩ = some (.complex .f64 0 0) := HZW3.out.cell 10 rfl
  have xf_W3 : ∀ j, W3.frozen? ⟨B8, j, none⟩ = false := HXW3.out.fz
  have rf_W3 : ∀ j, W3.frozen? ⟨w.heap.size, j, none⟩ = false := HZW3.out.fz
  have xl_W3 : B8 < W3.heap.size := HXW3.out.lt
  have rl_W3 : w.heap.size < W3.heap.size := HZW3.out.lt
  obtain ⟨V93, hV93⟩ : ∃ W, (W3).setCell ⟨B8, 0, none⟩ (.int .i64 8) = W := ⟨_, rfl⟩
  have HXV93 : Hid (BoxS V93 B8 (⟨8, ⟨#[]⟩, ⟨#[]⟩, 0, 0, 0, ⟨#[]⟩, none, 0, 0, none, 0, 0, none, 0, 0, X, Y⟩ : Sv).cells) := by rw [← hV93]; exact ((HXW3.out).setv 0 [.int .i64 8] (⟨8, ⟨#[]⟩, ⟨#[]⟩, 0, 0, 0, ⟨#[]⟩, none, 0, 0, none, 0, 0, none, 0, 0, X, Y⟩ : Sv).cells (by show 0 + 1 ≤ 11; decide) rfl)
  have HZV93 : Hid (BoxS V93 w.heap.size (sv0 0 0).cells) := by rw [← hV93]; exact ((HZW3.out).apart hrB 0 [.int .i64 8])
  have HBV93 : Hid (But R w V93) := by rw [← hV93]; exact ((HBW3.out).sets (B := B8) (by omega) 0 [.int .i64 8])
  have HTV93 : Hid (BoxS V93 (w.heap.size + 1) [.int .i64 ((1 : Nat) : Int), .string TX, .int .i64 (nn : Int), .int .i64 (aa : Int)]) := by rw [← hV93]; exact ((HTW3.out).apart htB 0 [.int .i64 8])
  have uV93 : V93.cell? ⟨w.heap.size + 1, 1, none⟩ = some (.string TX) := HTV93.out.cell 1 rfl
  have HQV93 : Hid (Rq V93 R g cap ts (a + 1) false bad) := by rw [← hV93]; exact ((HQW3.out).sets hBR hBg 0 [.int .i64 8])
  cases hnm : isNo 9 (Px.hd (left ts (a + 1))) with
  | true =>
    have H96 : Hid (isNo 9 (Px.hd (left ts (a + 1))) = true) := hnm
    have NM : Hid _ := rnumber_any HQV93.out HA2.out 9 true (by rw [hnm]; rfl)
    go_wp2_with fail
    refine Calls.mono NM.out ?_
    rintro e w94 ⟨⟨q95, rfl, hv⟩, hbn, hz⟩
    clear NM
    have HXw94 : Hid (BoxS w94 B8 (⟨8, ⟨#[]⟩, ⟨#[]⟩, 0, 0, 0, ⟨#[]⟩, none, 0, 0, none, 0, 0, none, 0, 0, X, Y⟩ : Sv).cells) := HXV93.out.but hbn hBR
    have HZw94 : Hid (BoxS w94 w.heap.size (sv0 0 0).cells) := HZV93.out.but hbn hrR
    have HBw94 : Hid (But R w w94) := HBV93.out.then hbn
    have HTw94 : Hid (BoxS w94 (w.heap.size + 1) [.int .i64 ((1 : Nat) : Int), .string TX, .int .i64 (nn : Int), .int .i64 (aa : Int)]) := HTV93.out.but hbn htR
    have HQw94 : Hid (Rq w94 R g cap ts ((a + 1) + 1) false bad) := Rz_yes hz
    clear hbn
    have HAL97 : Hid (Pp.Alive (left ts ((a + 1) + 1))) := alive_next HAL2.out (no_kind H96.out)
    have HLT98 : Hid ((a + 1) + 1 < ts.length) := alive_lt HAL97.out
    have hP := HPO0.out
    rw [bind_no_yes H96.out, left_tail] at hP
    have HPO99 : Hid _ := hP
    have HWq95 : Hid ((q95 : Int) = ((Px.hd (left ts (a + 1))).2.2 : Int)) := by show _ = _; rw [hv trivial]
    clear hv hz hnm hP
    clear x0_W3 x1_W3 x2_W3 x3_W3 x4_W3 x5_W3 x6_W3 x7_W3 x8_W3 x9_W3 x10_W3 r0_W3 r1_W3 r2_W3 r3_W3 r4_W3 r5_W3 r6_W3 r7_W3 r8_W3 r9_W3 r10_W3 xf_W3 rf_W3 xl_W3 rl_W3
    have x0_w94 : w94.cell? ⟨B8, 0, none⟩ = some (.int .i64 (8)) := HXw94.out.cell 0 rfl
    have x1_w94 : w94.cell? ⟨B8, 1, none⟩ = some (.string (⟨#[]⟩)) := HXw94.out.cell 1 rfl
    have x2_w94 : w94.cell? ⟨B8, 2, none⟩ = some (.string (⟨#[]⟩)) := HXw94.out.cell 2 rfl
    have x3_w94 : w94.cell? ⟨B8, 3, none⟩ = some (.int .i64 (0)) := HXw94.out.cell 3 rfl
    have x4_w94 : w94.cell? ⟨B8, 4, none⟩ = some (.int .i64 (0)) := HXw94.out.cell 4 rfl
    have x5_w94 : w94.cell? ⟨B8, 5, none⟩ = some (.int .i64 (0)) := HXw94.out.cell 5 rfl
    have x6_w94 : w94.cell? ⟨B8, 6, none⟩ = some (.string (⟨#[]⟩)) := HXw94.out.cell 6 rfl
    have x7_w94 : w94.cell? ⟨B8, 7, none⟩ = some (.slice none 0 0) := HXw94.out.cell 7 rfl
    have x8_w94 : w94.cell? ⟨B8, 8, none⟩ = some (.slice none 0 0) := HXw94.out.cell 8 rfl
    have x9_w94 : w94.cell? ⟨B8, 9, none⟩ = some (.slice none 0 0) := HXw94.out.cell 9 rfl
    have x10_w94 : w94.cell? ⟨B8, 10, none⟩ = some (.complex .f64 X Y) := HXw94.out.cell 10 rfl
    have r0_w94 : w94.cell? ⟨w.heap.size, 0, none⟩ = some (.int .i64 (0)) := HZw94.out.cell 0 rfl
    have r1_w94 : w94.cell? ⟨w.heap.size, 1, none⟩ = some (.string (⟨#[]⟩)) := HZw94.out.cell 1 rfl
    have r2_w94 : w94.cell? ⟨w.heap.size, 2, none⟩ = some (.string (⟨#[]⟩)) := HZw94.out.cell 2 rfl
    have r3_w94 : w94.cell? ⟨w.heap.size, 3, none⟩ = some (.int .i64 (0)) := HZw94.out.cell 3 rfl
    have r4_w94 : w94.cell? ⟨w.heap.size, 4, none⟩ = some (.int .i64 (0)) := HZw94.out.cell 4 rfl
    have r5_w94 : w94.cell? ⟨w.heap.size, 5, none⟩ = some (.int .i64 (0)) := HZw94.out.cell 5 rfl
    have r6_w94 : w94.cell? ⟨w.heap.size, 6, none⟩ = some (.string (⟨#[]⟩)) := HZw94.out.cell 6 rfl
    have r7_w94 : w94.cell? ⟨w.heap.size, 7, none⟩ = some (.slice none 0 0) := HZw94.out.cell 7 rfl
    have r8_w94 : w94.cell? ⟨w.heap.size, 8, none⟩ = some (.slice none 0 0) := HZw94.out.cell 8 rfl
    have r9_w94 : w94.cell? ⟨w.heap.size, 9, none⟩ = some (.slice none 0 0) := HZw94.out.cell 9 rfl
    have r10_w94 : w94.cell? ⟨w.heap.size, 10, none⟩ = some (.complex .f64 0 0) := HZw94.out.cell 10 rfl
    have xf_w94 : ∀ j, w94.frozen? ⟨B8, j, none⟩ = false := HXw94.out.fz
    have rf_w94 : ∀ j, w94.frozen? ⟨w.heap.size, j, none⟩ = false := HZw94.out.fz
    have xl_w94 : B8 < w94.heap.size := HXw94.out.lt
    have rl_w94 : w.heap.size < w94.heap.size := HZw94.out.lt
    obtain ⟨V100, hV100⟩ : ∃ W, (w94).setCell ⟨B8, 3, none⟩ (.int .i64 (q95 : Int)) = W := ⟨_, rfl⟩
    have HXV100 : Hid (BoxS V100 B8 (⟨8, ⟨#[]⟩, ⟨#[]⟩, (q95 : Int), 0, 0, ⟨#[]⟩, none, 0, 0, none, 0, 0, none, 0, 0, X, Y⟩ : Sv).cells) := by rw [← hV100]; exact ((HXw94.out).setv 3 [.int .i64 (q95 : Int)] (⟨8, ⟨#[]⟩, ⟨#[]⟩, (q95 : Int), 0, 0, ⟨#[]⟩, none, 0, 0, none, 0, 0, none, 0, 0, X, Y⟩ : Sv).cells (by show 3 + 1 ≤ 11; decide) rfl)
    have HZV100 : Hid (BoxS V100 w.heap.size (sv0 0 0).cells) := by rw [← hV100]; exact ((HZw94.out).apart hrB 3 [.int .i64 (q95 : Int)])
    have HBV100 : Hid (But R w V100) := by rw [← hV100]; exact ((HBw94.out).sets (B := B8) (by omega) 3 [.int .i64 (q95 : Int)])
    have HTV100 : Hid (BoxS V100 (w.heap.size + 1) [.int .i64 ((1 : Nat) : Int), .string TX, .int .i64 (nn : Int), .int .i64 (aa : Int)]) := by rw [← hV100]; exact ((HTw94.out).apart htB 3 [.int .i64 (q95 : Int)])
    have uV100 : V100.cell? ⟨w.heap.size + 1, 1, none⟩ = some (.string TX) := HTV100.out.cell 1 rfl
    have HQV100 : Hid (Rq V100 R g cap ts ((a + 1) + 1) false bad) := by rw [← hV100]; exact ((HQw94.out).sets hBR hBg 3 [.int .i64 (q95 : Int)])
    obtain ⟨o101, m102, hp103⟩ : ∃ o1 m1, blk (plOf s ts) (left ts ((a + 1) + 1)) = (o1, m1) := ⟨_, _, rfl⟩
    have HP109 : Hid (blk (plOf s ts) (left ts ((a + 1) + 1)) = (o101, m102)) := hp103
    have NM : Hid _ := HBB.out.yes R g cap s ts ((a + 1) + 1) bad V100 HQV100.out HAL97.out HOK.out o101 m102 hp103
    have HSF110 : Hid (left ts (ts.length - m102.length) = m102 ∧ Pp.Alive m102) := by
      have h1 := HBB.out.kp (plOf s ts) (left ts ((a + 1) + 1)) HAL97.out
      rw [hp103] at h1
      exact ⟨suf_left h1.1, h1.2⟩
    clear hp103
    go_wp2_with fail
    refine Calls.mono NM.out ?_
    rintro e w104 ⟨ax105, lx106, qx107, rfl, H108⟩
    have hbn := H108.out.1
    clear NM
    cases o101 with
    | none =>
      obtain ⟨fa118, hfa, hq⟩ := H108.out.2.2 rfl
      have HFA119 : Hid (fa118 < ts.length) := hfa
      have HXw104 : Hid (BoxS w104 B8 (⟨8, ⟨#[]⟩, ⟨#[]⟩, (q95 : Int), 0, 0, ⟨#[]⟩, none, 0, 0, none, 0, 0, none, 0, 0, X, Y⟩ : Sv).cells) := HXV100.out.but hbn hBR
      have HZw104 : Hid (BoxS w104 w.heap.size (sv0 0 0).cells) := HZV100.out.but hbn hrR
      have HBw104 : Hid (But R w w104) := HBV100.out.then hbn
      have HTw104 : Hid (BoxS w104 (w.heap.size + 1) [.int .i64 ((1 : Nat) : Int), .string TX, .int .i64 (nn : Int), .int .i64 (aa : Int)]) := HTV100.out.but hbn htR
      have HQw104 : Hid (Rq w104 R g cap ts fa118 true (ts.length - m102.length)) := hq
      clear hbn
      have hP := HPO99.out
      rw [Pp.bind_none HP109.out] at hP
      simp only [Prod.mk.injEq] at hP
      have HPO120 : Hid (o = none ∧ m = m102) := ⟨hP.1.symm, hP.2.symm⟩
      clear hfa hq hP
      clear x0_w94 x1_w94 x2_w94 x3_w94 x4_w94 x5_w94 x6_w94 x7_w94 x8_w94 x9_w94 x10_w94 r0_w94 r1_w94 r2_w94 r3_w94 r4_w94 r5_w94 r6_w94 r7_w94 r8_w94 r9_w94 r10_w94 xf_w94 rf_w94 xl_w94 rl_w94
      have x0_w104 : w104.cell? ⟨B8, 0, none⟩ = some (.int .i64 (8)) := HXw104.out.cell 0 rfl
      have x1_w104 : w104.cell? ⟨B8, 1, none⟩ = some (.string (⟨#[]⟩)) := HXw104.out.cell 1 rfl
      have x2_w104 : w104.cell? ⟨B8, 2, none⟩ = some (.string (⟨#[]⟩)) := HXw104.out.cell 2 rfl
      have x3_w104 : w104.cell? ⟨B8, 3, none⟩ = some (.int .i64 ((q95 : Int))) := HXw104.out.cell 3 rfl
      have x4_w104 : w104.cell? ⟨B8, 4, none⟩ = some (.int .i64 (0)) := HXw104.out.cell 4 rfl
      have x5_w104 : w104.cell? ⟨B8, 5, none⟩ = some (.int .i64 (0)) := HXw104.out.cell 5 rfl
      have x6_w104 : w104.cell? ⟨B8, 6, none⟩ = some (.string (⟨#[]⟩)) := HXw104.out.cell 6 rfl
      have x7_w104 : w104.cell? ⟨B8, 7, none⟩ = some (.slice none 0 0) := HXw104.out.cell 7 rfl
      have x8_w104 : w104.cell? ⟨B8, 8, none⟩ = some (.slice none 0 0) := HXw104.out.cell 8 rfl
      have x9_w104 : w104.cell? ⟨B8, 9, none⟩ = some (.slice none 0 0) := HXw104.out.cell 9 rfl
      have x10_w104 : w104.cell? ⟨B8, 10, none⟩ = some (.complex .f64 X Y) := HXw104.out.cell 10 rfl
      have r0_w104 : w104.cell? ⟨w.heap.size, 0, none⟩ = some (.int .i64 (0)) := HZw104.out.cell 0 rfl
      have r1_w104 : w104.cell? ⟨w.heap.size, 1, none⟩ = some (.string (⟨#[]⟩)) := HZw104.out.cell 1 rfl
      have r2_w104 : w104.cell? ⟨w.heap.size, 2, none⟩ = some (.string (⟨#[]⟩)) := HZw104.out.cell 2 rfl
      have r3_w104 : w104.cell? ⟨w.heap.size, 3, none⟩ = some (.int .i64 (0)) := HZw104.out.cell 3 rfl
      have r4_w104 : w104.cell? ⟨w.heap.size, 4, none⟩ = some (.int .i64 (0)) := HZw104.out.cell 4 rfl
      have r5_w104 : w104.cell? ⟨w.heap.size, 5, none⟩ = some (.int .i64 (0)) := HZw104.out.cell 5 rfl
      have r6_w104 : w104.cell? ⟨w.heap.size, 6, none⟩ = some (.string (⟨#[]⟩)) := HZw104.out.cell 6 rfl
      have r7_w104 : w104.cell? ⟨w.heap.size, 7, none⟩ = some (.slice none 0 0) := HZw104.out.cell 7 rfl
      have r8_w104 : w104.cell? ⟨w.heap.size, 8, none⟩ = some (.slice none 0 0) := HZw104.out.cell 8 rfl
      have r9_w104 : w104.cell? ⟨w.heap.size, 9, none⟩ = some (.slice none 0 0) := HZw104.out.cell 9 rfl
      have r10_w104 : w104.cell? ⟨w.heap.size, 10, none⟩ = some (.complex .f64 0 0) := HZw104.out.cell 10 rfl
      have xf_w104 : ∀ j, w104.frozen? ⟨B8, j, none⟩ = false := HXw104.out.fz
      have rf_w104 : ∀ j, w104.frozen? ⟨w.heap.size, j, none⟩ = false := HZw104.out.fz
      have xl_w104 : B8 < w104.heap.size := HXw104.out.lt
      have rl_w104 : w.heap.size < w104.heap.size := HZw104.out.lt
      obtain ⟨V121, hV121⟩ : ∃ W, (w104).setCell ⟨B8, 8, none⟩ (.slice ax105 lx106 qx107) = W := ⟨_, rfl⟩
      have HXV121 : Hid (BoxS V121 B8 (⟨8, ⟨#[]⟩, ⟨#[]⟩, (q95 : Int), 0, 0, ⟨#[]⟩, none, 0, 0, ax105, lx106, qx107, none, 0, 0, X, Y⟩ : Sv).cells) := by rw [← hV121]; exact ((HXw104.out).setv 8 [.slice ax105 lx106 qx107] (⟨8, ⟨#[]⟩, ⟨#[]⟩, (q95 : Int), 0, 0, ⟨#[]⟩, none, 0, 0, ax105, lx106, qx107, none, 0, 0, X, Y⟩ : Sv).cells (by show 8 + 1 ≤ 11; decide) rfl)
      have HZV121 : Hid (BoxS V121 w.heap.size (sv0 0 0).cells) := by rw [← hV121]; exact ((HZw104.out).apart hrB 8 [.slice ax105 lx106 qx107])
      have HBV121 : Hid (But R w V121) := by rw [← hV121]; exact ((HBw104.out).sets (B := B8) (by omega) 8 [.slice ax105 lx106 qx107])
      have HTV121 : Hid (BoxS V121 (w.heap.size + 1) [.int .i64 ((1 : Nat) : Int), .string TX, .int .i64 (nn : Int), .int .i64 (aa : Int)]) := by rw [← hV121]; exact ((HTw104.out).apart htB 8 [.slice ax105 lx106 qx107])
      have uV121 : V121.cell? ⟨w.heap.size + 1, 1, none⟩ = some (.string TX) := HTV121.out.cell 1 rfl
      have HQV121 : Hid (Rq V121 R g cap ts fa118 true (ts.length - m102.length)) := by rw [← hV121]; exact ((HQw104.out).sets hBR hBg 8 [.slice ax105 lx106 qx107])
      have x0_V121 : V121.cell? ⟨B8, 0, none⟩ = some (.int .i64 (8)) := HXV121.out.cell 0 rfl
      have x1_V121 : V121.cell? ⟨B8, 1, none⟩ = some (.string (⟨#[]⟩)) := HXV121.out.cell 1 rfl
      have x2_V121 : V121.cell? ⟨B8, 2, none⟩ = some (.string (⟨#[]⟩)) := HXV121.out.cell 2 rfl
      have x3_V121 : V121.cell? ⟨B8, 3, none⟩ = some (.int .i64 ((q95 : Int))) := HXV121.out.cell 3 rfl
      have x4_V121 : V121.cell? ⟨B8, 4, none⟩ = some (.int .i64 (0)) := HXV121.out.cell 4 rfl
      have x5_V121 : V121.cell? ⟨B8, 5, none⟩ = some (.int .i64 (0)) := HXV121.out.cell 5 rfl
      have x6_V121 : V121.cell? ⟨B8, 6, none⟩ = some (.string (⟨#[]⟩)) := HXV121.out.cell 6 rfl
      have x7_V121 : V121.cell? ⟨B8, 7, none⟩ = some (.slice none 0 0) := HXV121.out.cell 7 rfl
      have x8_V121 : V121.cell? ⟨B8, 8, none⟩ = some (.slice ax105 lx106 qx107) := HXV121.out.cell 8 rfl
      have x9_V121 : V121.cell? ⟨B8, 9, none⟩ = some (.slice none 0 0) := HXV121.out.cell 9 rfl
      have x10_V121 : V121.cell? ⟨B8, 10, none⟩ = some (.complex .f64 X Y) := HXV121.out.cell 10 rfl
      have r0_V121 : V121.cell? ⟨w.heap.size, 0, none⟩ = some (.int .i64 (0)) := HZV121.out.cell 0 rfl
      have r1_V121 : V121.cell? ⟨w.heap.size, 1, none⟩ = some (.string (⟨#[]⟩)) := HZV121.out.cell 1 rfl
      have r2_V121 : V121.cell? ⟨w.heap.size, 2, none⟩ = some (.string (⟨#[]⟩)) := HZV121.out.cell 2 rfl
      have r3_V121 : V121.cell? ⟨w.heap.size, 3, none⟩ = some (.int .i64 (0)) := HZV121.out.cell 3 rfl
      have r4_V121 : V121.cell? ⟨w.heap.size, 4, none⟩ = some (.int .i64 (0)) := HZV121.out.cell 4 rfl
      have r5_V121 : V121.cell? ⟨w.heap.size, 5, none⟩ = some (.int .i64 (0)) := HZV121.out.cell 5 rfl
      have r6_V121 : V121.cell? ⟨w.heap.size, 6, none⟩ = some (.string (⟨#[]⟩)) := HZV121.out.cell 6 rfl
      have r7_V121 : V121.cell? ⟨w.heap.size, 7, none⟩ = some (.slice none 0 0) := HZV121.out.cell 7 rfl
      have r8_V121 : V121.cell? ⟨w.heap.size, 8, none⟩ = some (.slice none 0 0) := HZV121.out.cell 8 rfl
      have r9_V121 : V121.cell? ⟨w.heap.size, 9, none⟩ = some (.slice none 0 0) := HZV121.out.cell 9 rfl
      have r10_V121 : V121.cell? ⟨w.heap.size, 10, none⟩ = some (.complex .f64 0 0) := HZV121.out.cell 10 rfl
      have xf_V121 : ∀ j, V121.frozen? ⟨B8, j, none⟩ = false := HXV121.out.fz
      have rf_V121 : ∀ j, V121.frozen? ⟨w.heap.size, j, none⟩ = false := HZV121.out.fz
      have xl_V121 : B8 < V121.heap.size := HXV121.out.lt
      have rl_V121 : w.heap.size < V121.heap.size := HZV121.out.lt
      go_wp2_with fail
      obtain ⟨hO1, hO2⟩ := HPO120.out
      subst hO1 hO2
      refine reds_end (⟨8, ⟨#[]⟩, ⟨#[]⟩, (q95 : Int), 0, 0, ⟨#[]⟩, none, 0, 0, ax105, lx106, qx107, none, 0, 0, X, Y⟩ : Sv) rfl HZV121.out HBV121.out hRw HGW.out ?hsome (fun _ => ⟨fa118, HFA119.out, ?_⟩)
      case hsome => exact fun x hx => by cases hx
      exact HQV121.out
    | some y111 =>
      obtain ⟨hT, hq⟩ := H108.out.2.1 y111 rfl
      obtain ⟨b116, hbb⟩ : ∃ b, ts.length - m102.length = b := ⟨_, rfl⟩
      rw [hbb] at hq HSF110
      clear hbb
      have HXw104 : Hid (BoxS w104 B8 (⟨8, ⟨#[]⟩, ⟨#[]⟩, (q95 : Int), 0, 0, ⟨#[]⟩, none, 0, 0, none, 0, 0, none, 0, 0, X, Y⟩ : Sv).cells) := HXV100.out.but hbn hBR
      have HZw104 : Hid (BoxS w104 w.heap.size (sv0 0 0).cells) := HZV100.out.but hbn hrR
      have HBw104 : Hid (But R w w104) := HBV100.out.then hbn
      have HTw104 : Hid (BoxS w104 (w.heap.size + 1) [.int .i64 ((1 : Nat) : Int), .string TX, .int .i64 (nn : Int), .int .i64 (aa : Int)]) := HTV100.out.but hbn htR
      have HQw104 : Hid (Rq w104 R g cap ts b116 false bad) := hq
      have HRB115_w104 : Hid (StsD w104 (Dk B8 w104) y111 (.slice ax105 lx106 qx107)) := ss_new hT HXV100.out.lt
      clear hbn
      have HAL112 : Hid (Pp.Alive (left ts b116)) := by rw [HSF110.out.1]; exact HSF110.out.2
      have HLT113 : Hid (b116 < ts.length) := alive_lt HAL112.out
      have hP := HPO99.out
      rw [Pp.bind_some HP109.out, ← HSF110.out.1] at hP
      have HPO114 : Hid _ := hP
      clear hT hq hP
      clear x0_w94 x1_w94 x2_w94 x3_w94 x4_w94 x5_w94 x6_w94 x7_w94 x8_w94 x9_w94 x10_w94 r0_w94 r1_w94 r2_w94 r3_w94 r4_w94 r5_w94 r6_w94 r7_w94 r8_w94 r9_w94 r10_w94 xf_w94 rf_w94 xl_w94 rl_w94
      have x0_w104 : w104.cell? ⟨B8, 0, none⟩ = some (.int .i64 (8)) := HXw104.out.cell 0 rfl
      have x1_w104 : w104.cell? ⟨B8, 1, none⟩ = some (.string (⟨#[]⟩)) := HXw104.out.cell 1 rfl
      have x2_w104 : w104.cell? ⟨B8, 2, none⟩ = some (.string (⟨#[]⟩)) := HXw104.out.cell 2 rfl
      have x3_w104 : w104.cell? ⟨B8, 3, none⟩ = some (.int .i64 ((q95 : Int))) := HXw104.out.cell 3 rfl
      have x4_w104 : w104.cell? ⟨B8, 4, none⟩ = some (.int .i64 (0)) := HXw104.out.cell 4 rfl
      have x5_w104 : w104.cell? ⟨B8, 5, none⟩ = some (.int .i64 (0)) := HXw104.out.cell 5 rfl
      have x6_w104 : w104.cell? ⟨B8, 6, none⟩ = some (.string (⟨#[]⟩)) := HXw104.out.cell 6 rfl
      have x7_w104 : w104.cell? ⟨B8, 7, none⟩ = some (.slice none 0 0) := HXw104.out.cell 7 rfl
      have x8_w104 : w104.cell? ⟨B8, 8, none⟩ = some (.slice none 0 0) := HXw104.out.cell 8 rfl
      have x9_w104 : w104.cell? ⟨B8, 9, none⟩ = some (.slice none 0 0) := HXw104.out.cell 9 rfl
      have x10_w104 : w104.cell? ⟨B8, 10, none⟩ = some (.complex .f64 X Y) := HXw104.out.cell 10 rfl
      have r0_w104 : w104.cell? ⟨w.heap.size, 0, none⟩ = some (.int .i64 (0)) := HZw104.out.cell 0 rfl
      have r1_w104 : w104.cell? ⟨w.heap.size, 1, none⟩ = some (.string (⟨#[]⟩)) := HZw104.out.cell 1 rfl
      have r2_w104 : w104.cell? ⟨w.heap.size, 2, none⟩ = some (.string (⟨#[]⟩)) := HZw104.out.cell 2 rfl
      have r3_w104 : w104.cell? ⟨w.heap.size, 3, none⟩ = some (.int .i64 (0)) := HZw104.out.cell 3 rfl
      have r4_w104 : w104.cell? ⟨w.heap.size, 4, none⟩ = some (.int .i64 (0)) := HZw104.out.cell 4 rfl
      have r5_w104 : w104.cell? ⟨w.heap.size, 5, none⟩ = some (.int .i64 (0)) := HZw104.out.cell 5 rfl
      have r6_w104 : w104.cell? ⟨w.heap.size, 6, none⟩ = some (.string (⟨#[]⟩)) := HZw104.out.cell 6 rfl
      have r7_w104 : w104.cell? ⟨w.heap.size, 7, none⟩ = some (.slice none 0 0) := HZw104.out.cell 7 rfl
      have r8_w104 : w104.cell? ⟨w.heap.size, 8, none⟩ = some (.slice none 0 0) := HZw104.out.cell 8 rfl
      have r9_w104 : w104.cell? ⟨w.heap.size, 9, none⟩ = some (.slice none 0 0) := HZw104.out.cell 9 rfl
      have r10_w104 : w104.cell? ⟨w.heap.size, 10, none⟩ = some (.complex .f64 0 0) := HZw104.out.cell 10 rfl
      have xf_w104 : ∀ j, w104.frozen? ⟨B8, j, none⟩ = false := HXw104.out.fz
      have rf_w104 : ∀ j, w104.frozen? ⟨w.heap.size, j, none⟩ = false := HZw104.out.fz
      have xl_w104 : B8 < w104.heap.size := HXw104.out.lt
      have rl_w104 : w.heap.size < w104.heap.size := HZw104.out.lt
      obtain ⟨V117, hV117⟩ : ∃ W, (w104).setCell ⟨B8, 8, none⟩ (.slice ax105 lx106 qx107) = W := ⟨_, rfl⟩
      have HXV117 : Hid (BoxS V117 B8 (⟨8, ⟨#[]⟩, ⟨#[]⟩, (q95 : Int), 0, 0, ⟨#[]⟩, none, 0, 0, ax105, lx106, qx107, none, 0, 0, X, Y⟩ : Sv).cells) := by rw [← hV117]; exact ((HXw104.out).setv 8 [.slice ax105 lx106 qx107] (⟨8, ⟨#[]⟩, ⟨#[]⟩, (q95 : Int), 0, 0, ⟨#[]⟩, none, 0, 0, ax105, lx106, qx107, none, 0, 0, X, Y⟩ : Sv).cells (by show 8 + 1 ≤ 11; decide) rfl)
      have HZV117 : Hid (BoxS V117 w.heap.size (sv0 0 0).cells) := by rw [← hV117]; exact ((HZw104.out).apart hrB 8 [.slice ax105 lx106 qx107])
      have HBV117 : Hid (But R w V117) := by rw [← hV117]; exact ((HBw104.out).sets (B := B8) (by omega) 8 [.slice ax105 lx106 qx107])
      have HTV117 : Hid (BoxS V117 (w.heap.size + 1) [.int .i64 ((1 : Nat) : Int), .string TX, .int .i64 (nn : Int), .int .i64 (aa : Int)]) := by rw [← hV117]; exact ((HTw104.out).apart htB 8 [.slice ax105 lx106 qx107])
      have uV117 : V117.cell? ⟨w.heap.size + 1, 1, none⟩ = some (.string TX) := HTV117.out.cell 1 rfl
      have HQV117 : Hid (Rq V117 R g cap ts b116 false bad) := by rw [← hV117]; exact ((HQw104.out).sets hBR hBg 8 [.slice ax105 lx106 qx107])
      have HRB115_V117 : Hid (StsD V117 (Dk B8 V117) y111 (.slice ax105 lx106 qx107)) := by rw [← hV117]; exact (ss_set HRB115_w104.out 8 [.slice ax105 lx106 qx107])
      have x0_V117 : V117.cell? ⟨B8, 0, none⟩ = some (.int .i64 (8)) := HXV117.out.cell 0 rfl
      have x1_V117 : V117.cell? ⟨B8, 1, none⟩ = some (.string (⟨#[]⟩)) := HXV117.out.cell 1 rfl
      have x2_V117 : V117.cell? ⟨B8, 2, none⟩ = some (.string (⟨#[]⟩)) := HXV117.out.cell 2 rfl
      have x3_V117 : V117.cell? ⟨B8, 3, none⟩ = some (.int .i64 ((q95 : Int))) := HXV117.out.cell 3 rfl
      have x4_V117 : V117.cell? ⟨B8, 4, none⟩ = some (.int .i64 (0)) := HXV117.out.cell 4 rfl
      have x5_V117 : V117.cell? ⟨B8, 5, none⟩ = some (.int .i64 (0)) := HXV117.out.cell 5 rfl
      have x6_V117 : V117.cell? ⟨B8, 6, none⟩ = some (.string (⟨#[]⟩)) := HXV117.out.cell 6 rfl
      have x7_V117 : V117.cell? ⟨B8, 7, none⟩ = some (.slice none 0 0) := HXV117.out.cell 7 rfl
      have x8_V117 : V117.cell? ⟨B8, 8, none⟩ = some (.slice ax105 lx106 qx107) := HXV117.out.cell 8 rfl
      have x9_V117 : V117.cell? ⟨B8, 9, none⟩ = some (.slice none 0 0) := HXV117.out.cell 9 rfl
      have x10_V117 : V117.cell? ⟨B8, 10, none⟩ = some (.complex .f64 X Y) := HXV117.out.cell 10 rfl
      have r0_V117 : V117.cell? ⟨w.heap.size, 0, none⟩ = some (.int .i64 (0)) := HZV117.out.cell 0 rfl
      have r1_V117 : V117.cell? ⟨w.heap.size, 1, none⟩ = some (.string (⟨#[]⟩)) := HZV117.out.cell 1 rfl
      have r2_V117 : V117.cell? ⟨w.heap.size, 2, none⟩ = some (.string (⟨#[]⟩)) := HZV117.out.cell 2 rfl
      have r3_V117 : V117.cell? ⟨w.heap.size, 3, none⟩ = some (.int .i64 (0)) := HZV117.out.cell 3 rfl
      have r4_V117 : V117.cell? ⟨w.heap.size, 4, none⟩ = some (.int .i64 (0)) := HZV117.out.cell 4 rfl
      have r5_V117 : V117.cell? ⟨w.heap.size, 5, none⟩ = some (.int .i64 (0)) := HZV117.out.cell 5 rfl
      have r6_V117 : V117.cell? ⟨w.heap.size, 6, none⟩ = some (.string (⟨#[]⟩)) := HZV117.out.cell 6 rfl
      have r7_V117 : V117.cell? ⟨w.heap.size, 7, none⟩ = some (.slice none 0 0) := HZV117.out.cell 7 rfl
      have r8_V117 : V117.cell? ⟨w.heap.size, 8, none⟩ = some (.slice none 0 0) := HZV117.out.cell 8 rfl
      have r9_V117 : V117.cell? ⟨w.heap.size, 9, none⟩ = some (.slice none 0 0) := HZV117.out.cell 9 rfl
      have r10_V117 : V117.cell? ⟨w.heap.size, 10, none⟩ = some (.complex .f64 0 0) := HZV117.out.cell 10 rfl
      have xf_V117 : ∀ j, V117.frozen? ⟨B8, j, none⟩ = false := HXV117.out.fz
      have rf_V117 : ∀ j, V117.frozen? ⟨w.heap.size, j, none⟩ = false := HZV117.out.fz
      have xl_V117 : B8 < V117.heap.size := HXV117.out.lt
      have rl_V117 : w.heap.size < V117.heap.size := HZV117.out.lt
      go_wp2_with fail
      have hP := HPO114.out
      simp only [Pp.ret, Prod.mk.injEq] at hP
      obtain ⟨hO1, hO2⟩ := hP
      subst hO1 hO2
      refine reds_end (⟨8, ⟨#[]⟩, ⟨#[]⟩, (q95 : Int), 0, 0, ⟨#[]⟩, none, 0, 0, ax105, lx106, qx107, none, 0, 0, X, Y⟩ : Sv) rfl HZV117.out HBV117.out hRw HGW.out (fun x hx => ?_) (fun hx => by cases hx)
      cases hx
      refine ⟨⟨rfl, rfl, rfl, HWq95.out, rfl, rfl, rfl, rfl, rfl, ExsD.nil _ _, ss_fin HRB115_V117.out (by omega), StsD.nil' _ _⟩, ?_⟩
      rw [show ts.length - (left ts b116).length = b116 by rw [left_len]; have := HLT113.out; omega]
      exact HQV117.out
  | false =>
    have H124 : Hid (isNo 9 (Px.hd (left ts (a + 1))) = false) := hnm
    have NM : Hid _ := rnumber_any HQV93.out HA2.out 9 false (by rw [hnm]; rfl)
    go_wp2_with fail
    refine Calls.mono NM.out ?_
    rintro e w122 ⟨⟨q123, rfl, hv⟩, hbn, hz⟩
    clear NM
    have HXw122 : Hid (BoxS w122 B8 (⟨8, ⟨#[]⟩, ⟨#[]⟩, 0, 0, 0, ⟨#[]⟩, none, 0, 0, none, 0, 0, none, 0, 0, X, Y⟩ : Sv).cells) := HXV93.out.but hbn hBR
    have HZw122 : Hid (BoxS w122 w.heap.size (sv0 0 0).cells) := HZV93.out.but hbn hrR
    have HBw122 : Hid (But R w w122) := HBV93.out.then hbn
    have HTw122 : Hid (BoxS w122 (w.heap.size + 1) [.int .i64 ((1 : Nat) : Int), .string TX, .int .i64 (nn : Int), .int .i64 (aa : Int)]) := HTV93.out.but hbn htR
    have HQw122 : Hid (Rq w122 R g cap ts (a + 1) true (a + 1)) := Rz_no hz
    clear hbn
    have hP := HPO0.out
    rw [bind_no_no H124.out] at hP
    simp only [Prod.mk.injEq] at hP
    have HPO125 : Hid (o = none ∧ m = (left ts (a + 1))) := ⟨hP.1.symm, hP.2.symm⟩
    clear hv hz hnm hP
    clear x0_W3 x1_W3 x2_W3 x3_W3 x4_W3 x5_W3 x6_W3 x7_W3 x8_W3 x9_W3 x10_W3 r0_W3 r1_W3 r2_W3 r3_W3 r4_W3 r5_W3 r6_W3 r7_W3 r8_W3 r9_W3 r10_W3 xf_W3 rf_W3 xl_W3 rl_W3
    have x0_w122 : w122.cell? ⟨B8, 0, none⟩ = some (.int .i64 (8)) := HXw122.out.cell 0 rfl
    have x1_w122 : w122.cell? ⟨B8, 1, none⟩ = some (.string (⟨#[]⟩)) := HXw122.out.cell 1 rfl
    have x2_w122 : w122.cell? ⟨B8, 2, none⟩ = some (.string (⟨#[]⟩)) := HXw122.out.cell 2 rfl
    have x3_w122 : w122.cell? ⟨B8, 3, none⟩ = some (.int .i64 (0)) := HXw122.out.cell 3 rfl
    have x4_w122 : w122.cell? ⟨B8, 4, none⟩ = some (.int .i64 (0)) := HXw122.out.cell 4 rfl
    have x5_w122 : w122.cell? ⟨B8, 5, none⟩ = some (.int .i64 (0)) := HXw122.out.cell 5 rfl
    have x6_w122 : w122.cell? ⟨B8, 6, none⟩ = some (.string (⟨#[]⟩)) := HXw122.out.cell 6 rfl
    have x7_w122 : w122.cell? ⟨B8, 7, none⟩ = some (.slice none 0 0) := HXw122.out.cell 7 rfl
    have x8_w122 : w122.cell? ⟨B8, 8, none⟩ = some (.slice none 0 0) := HXw122.out.cell 8 rfl
    have x9_w122 : w122.cell? ⟨B8, 9, none⟩ = some (.slice none 0 0) := HXw122.out.cell 9 rfl
    have x10_w122 : w122.cell? ⟨B8, 10, none⟩ = some (.complex .f64 X Y) := HXw122.out.cell 10 rfl
    have r0_w122 : w122.cell? ⟨w.heap.size, 0, none⟩ = some (.int .i64 (0)) := HZw122.out.cell 0 rfl
    have r1_w122 : w122.cell? ⟨w.heap.size, 1, none⟩ = some (.string (⟨#[]⟩)) := HZw122.out.cell 1 rfl
    have r2_w122 : w122.cell? ⟨w.heap.size, 2, none⟩ = some (.string (⟨#[]⟩)) := HZw122.out.cell 2 rfl
    have r3_w122 : w122.cell? ⟨w.heap.size, 3, none⟩ = some (.int .i64 (0)) := HZw122.out.cell 3 rfl
    have r4_w122 : w122.cell? ⟨w.heap.size, 4, none⟩ = some (.int .i64 (0)) := HZw122.out.cell 4 rfl
    have r5_w122 : w122.cell? ⟨w.heap.size, 5, none⟩ = some (.int .i64 (0)) := HZw122.out.cell 5 rfl
    have r6_w122 : w122.cell? ⟨w.heap.size, 6, none⟩ = some (.string (⟨#[]⟩)) := HZw122.out.cell 6 rfl
    have r7_w122 : w122.cell? ⟨w.heap.size, 7, none⟩ = some (.slice none 0 0) := HZw122.out.cell 7 rfl
    have r8_w122 : w122.cell? ⟨w.heap.size, 8, none⟩ = some (.slice none 0 0) := HZw122.out.cell 8 rfl
    have r9_w122 : w122.cell? ⟨w.heap.size, 9, none⟩ = some (.slice none 0 0) := HZw122.out.cell 9 rfl
    have r10_w122 : w122.cell? ⟨w.heap.size, 10, none⟩ = some (.complex .f64 0 0) := HZw122.out.cell 10 rfl
    have xf_w122 : ∀ j, w122.frozen? ⟨B8, j, none⟩ = false := HXw122.out.fz
    have rf_w122 : ∀ j, w122.frozen? ⟨w.heap.size, j, none⟩ = false := HZw122.out.fz
    have xl_w122 : B8 < w122.heap.size := HXw122.out.lt
    have rl_w122 : w.heap.size < w122.heap.size := HZw122.out.lt
    obtain ⟨V126, hV126⟩ : ∃ W, (w122).setCell ⟨B8, 3, none⟩ (.int .i64 (q123 : Int)) = W := ⟨_, rfl⟩
    have HXV126 : Hid (BoxS V126 B8 (⟨8, ⟨#[]⟩, ⟨#[]⟩, (q123 : Int), 0, 0, ⟨#[]⟩, none, 0, 0, none, 0, 0, none, 0, 0, X, Y⟩ : Sv).cells) := by rw [← hV126]; exact ((HXw122.out).setv 3 [.int .i64 (q123 : Int)] (⟨8, ⟨#[]⟩, ⟨#[]⟩, (q123 : Int), 0, 0, ⟨#[]⟩, none, 0, 0, none, 0, 0, none, 0, 0, X, Y⟩ : Sv).cells (by show 3 + 1 ≤ 11; decide) rfl)
    have HZV126 : Hid (BoxS V126 w.heap.size (sv0 0 0).cells) := by rw [← hV126]; exact ((HZw122.out).apart hrB 3 [.int .i64 (q123 : Int)])
    have HBV126 : Hid (But R w V126) := by rw [← hV126]; exact ((HBw122.out).sets (B := B8) (by omega) 3 [.int .i64 (q123 : Int)])
    have HTV126 : Hid (BoxS V126 (w.heap.size + 1) [.int .i64 ((1 : Nat) : Int), .string TX, .int .i64 (nn : Int), .int .i64 (aa : Int)]) := by rw [← hV126]; exact ((HTw122.out).apart htB 3 [.int .i64 (q123 : Int)])
    have uV126 : V126.cell? ⟨w.heap.size + 1, 1, none⟩ = some (.string TX) := HTV126.out.cell 1 rfl
    have HQV126 : Hid (Rq V126 R g cap ts (a + 1) true (a + 1)) := by rw [← hV126]; exact ((HQw122.out).sets hBR hBg 3 [.int .i64 (q123 : Int)])
    have NM : Hid _ := HBB.out.no R g cap s ts (a + 1) (a + 1) V126 HQV126.out HA2.out
    go_wp2_with fail
    refine Calls.mono NM.out ?_
    rintro e w127 ⟨rfl, H128⟩
    have hbn := H128.out.1
    clear NM
    have HXw127 : Hid (BoxS w127 B8 (⟨8, ⟨#[]⟩, ⟨#[]⟩, (q123 : Int), 0, 0, ⟨#[]⟩, none, 0, 0, none, 0, 0, none, 0, 0, X, Y⟩ : Sv).cells) := HXV126.out.but hbn hBR
    have HZw127 : Hid (BoxS w127 w.heap.size (sv0 0 0).cells) := HZV126.out.but hbn hrR
    have HBw127 : Hid (But R w w127) := HBV126.out.then hbn
    have HTw127 : Hid (BoxS w127 (w.heap.size + 1) [.int .i64 ((1 : Nat) : Int), .string TX, .int .i64 (nn : Int), .int .i64 (aa : Int)]) := HTV126.out.but hbn htR
    have HQw127 : Hid (Rq w127 R g cap ts (a + 1) true (a + 1)) := H128.out.2
    clear hbn
    clear x0_w122 x1_w122 x2_w122 x3_w122 x4_w122 x5_w122 x6_w122 x7_w122 x8_w122 x9_w122 x10_w122 r0_w122 r1_w122 r2_w122 r3_w122 r4_w122 r5_w122 r6_w122 r7_w122 r8_w122 r9_w122 r10_w122 xf_w122 rf_w122 xl_w122 rl_w122
    have x0_w127 : w127.cell? ⟨B8, 0, none⟩ = some (.int .i64 (8)) := HXw127.out.cell 0 rfl
    have x1_w127 : w127.cell? ⟨B8, 1, none⟩ = some (.string (⟨#[]⟩)) := HXw127.out.cell 1 rfl
    have x2_w127 : w127.cell? ⟨B8, 2, none⟩ = some (.string (⟨#[]⟩)) := HXw127.out.cell 2 rfl
    have x3_w127 : w127.cell? ⟨B8, 3, none⟩ = some (.int .i64 ((q123 : Int))) := HXw127.out.cell 3 rfl
    have x4_w127 : w127.cell? ⟨B8, 4, none⟩ = some (.int .i64 (0)) := HXw127.out.cell 4 rfl
    have x5_w127 : w127.cell? ⟨B8, 5, none⟩ = some (.int .i64 (0)) := HXw127.out.cell 5 rfl
    have x6_w127 : w127.cell? ⟨B8, 6, none⟩ = some (.string (⟨#[]⟩)) := HXw127.out.cell 6 rfl
    have x7_w127 : w127.cell? ⟨B8, 7, none⟩ = some (.slice none 0 0) := HXw127.out.cell 7 rfl
    have x8_w127 : w127.cell? ⟨B8, 8, none⟩ = some (.slice none 0 0) := HXw127.out.cell 8 rfl
    have x9_w127 : w127.cell? ⟨B8, 9, none⟩ = some (.slice none 0 0) := HXw127.out.cell 9 rfl
    have x10_w127 : w127.cell? ⟨B8, 10, none⟩ = some (.complex .f64 X Y) := HXw127.out.cell 10 rfl
    have r0_w127 : w127.cell? ⟨w.heap.size, 0, none⟩ = some (.int .i64 (0)) := HZw127.out.cell 0 rfl
    have r1_w127 : w127.cell? ⟨w.heap.size, 1, none⟩ = some (.string (⟨#[]⟩)) := HZw127.out.cell 1 rfl
    have r2_w127 : w127.cell? ⟨w.heap.size, 2, none⟩ = some (.string (⟨#[]⟩)) := HZw127.out.cell 2 rfl
    have r3_w127 : w127.cell? ⟨w.heap.size, 3, none⟩ = some (.int .i64 (0)) := HZw127.out.cell 3 rfl
    have r4_w127 : w127.cell? ⟨w.heap.size, 4, none⟩ = some (.int .i64 (0)) := HZw127.out.cell 4 rfl
    have r5_w127 : w127.cell? ⟨w.heap.size, 5, none⟩ = some (.int .i64 (0)) := HZw127.out.cell 5 rfl
    have r6_w127 : w127.cell? ⟨w.heap.size, 6, none⟩ = some (.string (⟨#[]⟩)) := HZw127.out.cell 6 rfl
    have r7_w127 : w127.cell? ⟨w.heap.size, 7, none⟩ = some (.slice none 0 0) := HZw127.out.cell 7 rfl
    have r8_w127 : w127.cell? ⟨w.heap.size, 8, none⟩ = some (.slice none 0 0) := HZw127.out.cell 8 rfl
    have r9_w127 : w127.cell? ⟨w.heap.size, 9, none⟩ = some (.slice none 0 0) := HZw127.out.cell 9 rfl
    have r10_w127 : w127.cell? ⟨w.heap.size, 10, none⟩ = some (.complex .f64 0 0) := HZw127.out.cell 10 rfl
    have xf_w127 : ∀ j, w127.frozen? ⟨B8, j, none⟩ = false := HXw127.out.fz
    have rf_w127 : ∀ j, w127.frozen? ⟨w.heap.size, j, none⟩ = false := HZw127.out.fz
    have xl_w127 : B8 < w127.heap.size := HXw127.out.lt
    have rl_w127 : w.heap.size < w127.heap.size := HZw127.out.lt
    obtain ⟨V129, hV129⟩ : ∃ W, (w127).setCell ⟨B8, 8, none⟩ (.slice none 0 0) = W := ⟨_, rfl⟩
    have HXV129 : Hid (BoxS V129 B8 (⟨8, ⟨#[]⟩, ⟨#[]⟩, (q123 : Int), 0, 0, ⟨#[]⟩, none, 0, 0, none, 0, 0, none, 0, 0, X, Y⟩ : Sv).cells) := by rw [← hV129]; exact ((HXw127.out).setv 8 [.slice none 0 0] (⟨8, ⟨#[]⟩, ⟨#[]⟩, (q123 : Int), 0, 0, ⟨#[]⟩, none, 0, 0, none, 0, 0, none, 0, 0, X, Y⟩ : Sv).cells (by show 8 + 1 ≤ 11; decide) rfl)
    have HZV129 : Hid (BoxS V129 w.heap.size (sv0 0 0).cells) := by rw [← hV129]; exact ((HZw127.out).apart hrB 8 [.slice none 0 0])
    have HBV129 : Hid (But R w V129) := by rw [← hV129]; exact ((HBw127.out).sets (B := B8) (by omega) 8 [.slice none 0 0])
    have HTV129 : Hid (BoxS V129 (w.heap.size + 1) [.int .i64 ((1 : Nat) : Int), .string TX, .int .i64 (nn : Int), .int .i64 (aa : Int)]) := by rw [← hV129]; exact ((HTw127.out).apart htB 8 [.slice none 0 0])
    have uV129 : V129.cell? ⟨w.heap.size + 1, 1, none⟩ = some (.string TX) := HTV129.out.cell 1 rfl
    have HQV129 : Hid (Rq V129 R g cap ts (a + 1) true (a + 1)) := by rw [← hV129]; exact ((HQw127.out).sets hBR hBg 8 [.slice none 0 0])
    have x0_V129 : V129.cell? ⟨B8, 0, none⟩ = some (.int .i64 (8)) := HXV129.out.cell 0 rfl
    have x1_V129 : V129.cell? ⟨B8, 1, none⟩ = some (.string (⟨#[]⟩)) := HXV129.out.cell 1 rfl
    have x2_V129 : V129.cell? ⟨B8, 2, none⟩ = some (.string (⟨#[]⟩)) := HXV129.out.cell 2 rfl
    have x3_V129 : V129.cell? ⟨B8, 3, none⟩ = some (.int .i64 ((q123 : Int))) := HXV129.out.cell 3 rfl
    have x4_V129 : V129.cell? ⟨B8, 4, none⟩ = some (.int .i64 (0)) := HXV129.out.cell 4 rfl
    have x5_V129 : V129.cell? ⟨B8, 5, none⟩ = some (.int .i64 (0)) := HXV129.out.cell 5 rfl
    have x6_V129 : V129.cell? ⟨B8, 6, none⟩ = some (.string (⟨#[]⟩)) := HXV129.out.cell 6 rfl
    have x7_V129 : V129.cell? ⟨B8, 7, none⟩ = some (.slice none 0 0) := HXV129.out.cell 7 rfl
    have x8_V129 : V129.cell? ⟨B8, 8, none⟩ = some (.slice none 0 0) := HXV129.out.cell 8 rfl
    have x9_V129 : V129.cell? ⟨B8, 9, none⟩ = some (.slice none 0 0) := HXV129.out.cell 9 rfl
    have x10_V129 : V129.cell? ⟨B8, 10, none⟩ = some (.complex .f64 X Y) := HXV129.out.cell 10 rfl
    have r0_V129 : V129.cell? ⟨w.heap.size, 0, none⟩ = some (.int .i64 (0)) := HZV129.out.cell 0 rfl
    have r1_V129 : V129.cell? ⟨w.heap.size, 1, none⟩ = some (.string (⟨#[]⟩)) := HZV129.out.cell 1 rfl
    have r2_V129 : V129.cell? ⟨w.heap.size, 2, none⟩ = some (.string (⟨#[]⟩)) := HZV129.out.cell 2 rfl
    have r3_V129 : V129.cell? ⟨w.heap.size, 3, none⟩ = some (.int .i64 (0)) := HZV129.out.cell 3 rfl
    have r4_V129 : V129.cell? ⟨w.heap.size, 4, none⟩ = some (.int .i64 (0)) := HZV129.out.cell 4 rfl
    have r5_V129 : V129.cell? ⟨w.heap.size, 5, none⟩ = some (.int .i64 (0)) := HZV129.out.cell 5 rfl
    have r6_V129 : V129.cell? ⟨w.heap.size, 6, none⟩ = some (.string (⟨#[]⟩)) := HZV129.out.cell 6 rfl
    have r7_V129 : V129.cell? ⟨w.heap.size, 7, none⟩ = some (.slice none 0 0) := HZV129.out.cell 7 rfl
    have r8_V129 : V129.cell? ⟨w.heap.size, 8, none⟩ = some (.slice none 0 0) := HZV129.out.cell 8 rfl
    have r9_V129 : V129.cell? ⟨w.heap.size, 9, none⟩ = some (.slice none 0 0) := HZV129.out.cell 9 rfl
    have r10_V129 : V129.cell? ⟨w.heap.size, 10, none⟩ = some (.complex .f64 0 0) := HZV129.out.cell 10 rfl
    have xf_V129 : ∀ j, V129.frozen? ⟨B8, j, none⟩ = false := HXV129.out.fz
    have rf_V129 : ∀ j, V129.frozen? ⟨w.heap.size, j, none⟩ = false := HZV129.out.fz
    have xl_V129 : B8 < V129.heap.size := HXV129.out.lt
    have rl_V129 : w.heap.size < V129.heap.size := HZV129.out.lt
    go_wp2_with fail
    obtain ⟨hO1, hO2⟩ := HPO125.out
    subst hO1 hO2
    refine reds_end (⟨8, ⟨#[]⟩, ⟨#[]⟩, (q123 : Int), 0, 0, ⟨#[]⟩, none, 0, 0, none, 0, 0, none, 0, 0, X, Y⟩ : Sv) rfl HZV129.out HBV129.out hRw HGW.out ?hsome (fun _ => ⟨(a + 1), HA2.out, ?_⟩)
    case hsome => exact fun x hx => by cases hx
    rw [show ts.length - (left ts (a + 1)).length = (a + 1) by rw [left_len]; have := HA2.out; omega]
    exact HQV129.out
end Go.Proofs.Ytnfkjmafhaecgaa
