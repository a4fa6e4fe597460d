/- Sr -/
import Derived.Test.YtnfkjmafhaecgaaYSa

namespace Go.Proofs.Ytnfkjmafhaecgaa
open Go.RowKit
attribute [local go_sem] run_store_complex
set_option maxRecDepth 100000 in
set_option maxHeartbeats 8000000 in
theorem rstmt_recv (deep : Int) (blk : Pp.Pl → Pp.R (List St)) {R g cap : Nat} {s : ByteArray} {ts : List Lx.Tk} {a bad : Nat} {w : World} (h : Rq w R g cap ts a false bad) (hal : Pp.Alive (left ts a)) (hok : TkOk s ts) (o : Option St) (m : List Lx.Core) (htx : (Px.hd (left ts a)).2.1 = [114, 101, 99, 118]) (hp : Pp.stmt (plOf s ts) (blk (plOf s ts)) (left ts a) = (o, m)) :
    Calls Try.prog 62 #[.pointer (some ⟨R, 0, none⟩), .string s, .int .i64 deep] w fun e w' => RedS R g cap ts bad w o m e w' := by
  have ha := alive_lt hal
  have HR : Hid (Rq w R g cap ts a false bad) := h
  have hRw := h.rlt
  have hgw := h.lt
  have c0 := h.c0
  have c1 := h.c1
  have z1 := h.z 1
  have hf := h.few
  have hwr : IntKind.i64.wrap ((a : Int) + 1) = (a : Int) + 1 := by rw [IntKind.wrap_i64]; omega
  have hhd := hd_in ts a ha
  rw [hhd] at htx
  replace htx : Hid (ts[a].text = [114, 101, 99, 118]) := htx
  have hmem := List.getElem_mem ha
  have hw1 : ts[a].kind = 1 → Lx.isWord ts[a].text = true := hok.fit _ hmem
  have hkd : Hid (ts[a].kind = kindOf ts[a].text) := hok.kd _ hmem
  have HPL : Hid (∀ W, Calls Try.prog 50 #[.string s, .int .i64 (ts[a].at' : Int)] W fun e w' => e = .returned (.complex .f64 (lineW s ts[a].at') (colW s ts[a].at')) ∧ w' = W) := fun W => place_in s _ hok.sz (hok.at' _ hmem) W
  have hpl : plOf s ts (left ts a).length = (lineW s ts[a].at', colW s ts[a].at') := plOf_at s ts a ha
  obtain ⟨t0, t1, t2, t3⟩ := h.tok a ha
  have hai : (a : Int) < (ts.length : Int) := by omega
  have HA : Hid (a < ts.length) := ha
  have HAL : Hid (Pp.Alive (left ts a)) := hal
  have HOK : Hid (TkOk s ts) := hok
  have HHD : Hid _ := hhd
  have HPP : Hid _ := hpl
  unfold Pp.stmt at hp
  rw [hpl, hhd] at hp
  generalize lineW s ts[a].at' = X at *
  generalize colW s ts[a].at' = Y at *
  generalize ts[a].kind = kd at *
  generalize ts[a].text = tx at *
  generalize ts[a].n = nn at *
  generalize ts[a].at' = aa at *
  obtain ⟨N, hN⟩ : ∃ N, ts.length = N := ⟨_, rfl⟩
  have HN : Hid (ts.length = N) := hN
  rw [hN] at c0 hf hai
  clear h hal hok ha hN hmem hpl
  go_enter Try.func62, Try.ntmps62
  go_wp2_with fail
  go_region
  obtain ⟨W1, hW1⟩ : ∃ W1, ((sz w).alloc (.cells #[.int .i64 (kd : Int), .string (Px.ba tx), .int .i64 (nn : Int), .int .i64 (aa : Int)] 99)).drew = W1 := ⟨_, rfl⟩
  have hkw : Kept w (sz w) := (Kept.refl _).al _
  have hk1 : Kept (sz w) W1 := by rw [← hW1]; exact ((Kept.refl _).al _).dr
  have KW1 : Hid (Kept w W1) := hkw.then hk1
  have hbz : BoxS W1 w.heap.size (sv0 0 0).cells := (box_of (heap_alloc_new w _)).kept hk1
  have hbt : BoxS W1 (w.heap.size + 1) [.int .i64 (kd : Int), .string (Px.ba tx), .int .i64 (nn : Int), .int .i64 (aa : Int)] := by
    have h1 : BoxS ((sz w).alloc (.cells #[.int .i64 (kd : Int), .string (Px.ba tx), .int .i64 (nn : Int), .int .i64 (aa : Int)] 99)) (sz w).heap.size [.int .i64 (kd : Int), .string (Px.ba tx), .int .i64 (nn : Int), .int .i64 (aa : Int)] := box_of (heap_alloc_new (sz w) _)
    rw [show (sz w).heap.size = w.heap.size + 1 by simp] at h1
    rw [← hW1]
    exact h1.kept (Kept.refl _).dr
  have u3 : W1.cell? ⟨w.heap.size + 1, 3, none⟩ = some (.int .i64 (aa : Int)) := hbt.cell 3 rfl
  have hlt1 : w.heap.size + 1 < W1.heap.size := hbt.lt
  rw [hW1]
  clear hW1 hk1 hkw c0 t0 t1 t2 t3
  go_wp2_with fail
  refine (HPL.out _).mono ?_
  rintro e W1 ⟨rfl, rfl⟩
  obtain ⟨B8, hB8⟩ : ∃ B, W1.heap.size = B := ⟨_, rfl⟩
  obtain ⟨W2, hW2⟩ : ∃ W, W1.alloc (.cells #[.int .i64 0, .string ⟨#[]⟩, .string ⟨#[]⟩, .int .i64 0, .int .i64 0, .int .i64 0, .string ⟨#[]⟩, .slice none 0 0, .slice none 0 0, .slice none 0 0, .complex .f64 X Y] 46) = W := ⟨_, rfl⟩
  have hk2 : Kept W1 W2 := by rw [← hW2]; exact (Kept.refl _).al _
  have KW2 : Hid (Kept w W2) := KW1.out.then hk2
  have HQ2 : Hid (Rq W2 R g cap ts a false bad) := HR.out.kept KW2.out
  have hx : BoxS W2 B8 (⟨0, ⟨#[]⟩, ⟨#[]⟩, 0, 0, 0, ⟨#[]⟩, none, 0, 0, none, 0, 0, none, 0, 0, X, Y⟩ : Sv).cells := by rw [← hW2, ← hB8]; exact box_of (heap_alloc_new W1 _)
  have HXW2 : Hid (BoxS W2 B8 (⟨0, ⟨#[]⟩, ⟨#[]⟩, 0, 0, 0, ⟨#[]⟩, none, 0, 0, none, 0, 0, none, 0, 0, X, Y⟩ : Sv).cells) := hx
  have hzz : BoxS W2 w.heap.size (sv0 0 0).cells := hbz.kept hk2
  have HZW2 : Hid (BoxS W2 w.heap.size (sv0 0 0).cells) := hzz
  have x0 : W2.cell? ⟨B8, 0, none⟩ = some (.int .i64 (0)) := hx.cell 0 rfl
  have x1 : W2.cell? ⟨B8, 1, none⟩ = some (.string (⟨#[]⟩)) := hx.cell 1 rfl
  have x2 : W2.cell? ⟨B8, 2, none⟩ = some (.string (⟨#[]⟩)) := hx.cell 2 rfl
  have x3 : W2.cell? ⟨B8, 3, none⟩ = some (.int .i64 (0)) := hx.cell 3 rfl
  have x4 : W2.cell? ⟨B8, 4, none⟩ = some (.int .i64 (0)) := hx.cell 4 rfl
  have x5 : W2.cell? ⟨B8, 5, none⟩ = some (.int .i64 (0)) := hx.cell 5 rfl
  have x6 : W2.cell? ⟨B8, 6, none⟩ = some (.string (⟨#[]⟩)) := hx.cell 6 rfl
  have x7 : W2.cell? ⟨B8, 7, none⟩ = some (.slice none 0 0) := hx.cell 7 rfl
  have x8 : W2.cell? ⟨B8, 8, none⟩ = some (.slice none 0 0) := hx.cell 8 rfl
  have x9 : W2.cell? ⟨B8, 9, none⟩ = some (.slice none 0 0) := hx.cell 9 rfl
  have x10 : W2.cell? ⟨B8, 10, none⟩ = some (.complex .f64 X Y) := hx.cell 10 rfl
  have r0 : W2.cell? ⟨w.heap.size, 0, none⟩ = some (.int .i64 (0)) := hzz.cell 0 rfl
  have r1 : W2.cell? ⟨w.heap.size, 1, none⟩ = some (.string (⟨#[]⟩)) := hzz.cell 1 rfl
  have r2 : W2.cell? ⟨w.heap.size, 2, none⟩ = some (.string (⟨#[]⟩)) := hzz.cell 2 rfl
  have r3 : W2.cell? ⟨w.heap.size, 3, none⟩ = some (.int .i64 (0)) := hzz.cell 3 rfl
  have r4 : W2.cell? ⟨w.heap.size, 4, none⟩ = some (.int .i64 (0)) := hzz.cell 4 rfl
  have r5 : W2.cell? ⟨w.heap.size, 5, none⟩ = some (.int .i64 (0)) := hzz.cell 5 rfl
  have r6 : W2.cell? ⟨w.heap.size, 6, none⟩ = some (.string (⟨#[]⟩)) := hzz.cell 6 rfl
  have r7 : W2.cell? ⟨w.heap.size, 7, none⟩ = some (.slice none 0 0) := hzz.cell 7 rfl
  have r8 : W2.cell? ⟨w.heap.size, 8, none⟩ = some (.slice none 0 0) := hzz.cell 8 rfl
  have r9 : W2.cell? ⟨w.heap.size, 9, none⟩ = some (.slice none 0 0) := hzz.cell 9 rfl
  have r10 : W2.cell? ⟨w.heap.size, 10, none⟩ = some (.complex .f64 0 0) := hzz.cell 10 rfl
  have xf : ∀ j, W2.frozen? ⟨B8, j, none⟩ = false := hx.fz
  have rf : ∀ j, W2.frozen? ⟨w.heap.size, j, none⟩ = false := hzz.fz
  have xl : B8 < W2.heap.size := hx.lt
  have rl : w.heap.size < W2.heap.size := hzz.lt
  clear hx hzz
  have htk : BoxS W2 (w.heap.size + 1) [.int .i64 (kd : Int), .string (Px.ba tx), .int .i64 (nn : Int), .int .i64 (aa : Int)] := hbt.kept hk2
  have HTW2 : Hid (BoxS W2 (w.heap.size + 1) [.int .i64 (kd : Int), .string (Px.ba tx), .int .i64 (nn : Int), .int .i64 (aa : Int)]) := htk
  have u0 : W2.cell? ⟨w.heap.size + 1, 0, none⟩ = some (.int .i64 (kd : Int)) := htk.cell 0 rfl
  have u1 : W2.cell? ⟨w.heap.size + 1, 1, none⟩ = some (.string (Px.ba tx)) := htk.cell 1 rfl
  clear htk
  have hR2 := HQ2.out.rlt
  replace c1 := HQ2.out.c1
  replace z1 := HQ2.out.z 1
  have hBR : B8 ≠ R := by omega
  have hBg : B8 ≠ g := by omega
  have hBw : w.heap.size + 1 < B8 := by omega
  have hrR : w.heap.size ≠ R := by omega
  have htR : w.heap.size + 1 ≠ R := by omega
  have hrB : w.heap.size ≠ B8 := by omega
  have htB : w.heap.size + 1 ≠ B8 := by omega
  have HGW : Hid (g < w.heap.size) := hgw
  have LF : Hid (ts.length - (left ts a).length = a) := by show _ = _; rw [left_len]; have := HA.out; omega
  clear hbz hbt u3 hk2 hgw hlt1
  have h1 : kd = 1 := by rw [hkd.out, htx.out]; decide
  have hal2 : Pp.Alive (left ts (a + 1)) := by
    have := HAL.out.tail (.inl (by rw [hhd, h1]; show (1 : Nat) ≠ 4; decide))
    rwa [left_tail] at this
  have HAL2 : Hid (Pp.Alive (left ts (a + 1))) := hal2
  have HA2 : Hid (a + 1 < ts.length) := alive_lt hal2
  obtain ⟨W3, hW3⟩ : ∃ W, W2.setCell ⟨R, 1, none⟩ (.int .i64 ((a : Int) + 1)) = W := ⟨_, rfl⟩
  have hq3 := HQ2.out.at' (a + 1) (Nat.le_of_lt HA2.out)
  rw [show ((a + 1 : Nat) : Int) = (a : Int) + 1 by omega, hW3] at hq3
  have HQW3 : Hid (Rq W3 R g cap ts (a + 1) false bad) := hq3
  have hb23 : But R W2 W3 := by rw [← hW3]; exact (But.refl _ _).set _ _
  have HBW3 : Hid (But R w W3) := (But.of KW2.out).then hb23
  have HXW3 : Hid (BoxS W3 B8 (⟨0, ⟨#[]⟩, ⟨#[]⟩, 0, 0, 0, ⟨#[]⟩, none, 0, 0, none, 0, 0, none, 0, 0, X, Y⟩ : Sv).cells) := HXW2.out.but hb23 hBR
  have HZW3 : Hid (BoxS W3 w.heap.size (sv0 0 0).cells) := HZW2.out.but hb23 hrR
  have HTW3 : Hid (BoxS W3 (w.heap.size + 1) [.int .i64 (kd : Int), .string (Px.ba tx), .int .i64 (nn : Int), .int .i64 (aa : Int)]) := HTW2.out.but hb23 htR
  subst h1
  clear hq3 hb23 hal2 hw1 x0 x1 x2 x3 x4 x5 x6 x7 x8 x9 x10 r0 r1 r2 r3 r4 r5 r6 r7 r8 r9 r10 xf rf xl rl
  have htx1 := htx.out
  subst htx1
  clear htx
  have hP : Pp.bind Pp.name (fun a => Pp.bind Pp.name fun b => Pp.ret (St.mk 5 (Px.ba a) (Px.ba b) 0 ex0 [] [] X Y)) (left ts (a + 1)) = (o, m) := by
    have : Pp.behind (blk (plOf s ts)) 5 (X, Y) (left ts a).tail = (o, m) := hp
    rw [left_tail] at this
    exact this
  have HPO0 : Hid _ := hP
  have hRB : R < B8 := by omega
  clear hp hP hhd hkd
  have e0 : ((Px.ba [114, 101, 99, 118]).toList == [108, 111, 99, 107]) = false := by rw [show (Px.ba [114, 101, 99, 118]).toList = [114, 101, 99, 118] by rw [toList_data]; rfl]; decide
  have e1 : ((Px.ba [114, 101, 99, 118]).toList == [117, 110, 108, 111, 99, 107]) = false := by rw [show (Px.ba [114, 101, 99, 118]).toList = [114, 101, 99, 118] by rw [toList_data]; rfl]; decide
  have e2 : ((Px.ba [114, 101, 99, 118]).toList == [103, 111, 116, 111]) = false := by rw [show (Px.ba [114, 101, 99, 118]).toList = [114, 101, 99, 118] by rw [toList_data]; rfl]; decide
  have e3 : ((Px.ba [114, 101, 99, 118]).toList == [108, 97, 98, 101, 108]) = false := by rw [show (Px.ba [114, 101, 99, 118]).toList = [114, 101, 99, 118] by rw [toList_data]; rfl]; decide
  have e4 : ((Px.ba [114, 101, 99, 118]).toList == [115, 101, 110, 100]) = false := by rw [show (Px.ba [114, 101, 99, 118]).toList = [114, 101, 99, 118] by rw [toList_data]; rfl]; decide
  have e5 : ((Px.ba [114, 101, 99, 118]).toList == [114, 101, 99, 118]) = true := by rw [show (Px.ba [114, 101, 99, 118]).toList = [114, 101, 99, 118] by rw [toList_data]; rfl]; decide
  have e6 : ((Px.ba [114, 101, 99, 118]).toList == [112, 114, 105, 110, 116]) = false := by rw [show (Px.ba [114, 101, 99, 118]).toList = [114, 101, 99, 118] by rw [toList_data]; rfl]; decide
  have e7 : ((Px.ba [114, 101, 99, 118]).toList == [105, 102]) = false := by rw [show (Px.ba [114, 101, 99, 118]).toList = [114, 101, 99, 118] by rw [toList_data]; rfl]; decide
  have e8 : ((Px.ba [114, 101, 99, 118]).toList == [114, 101, 112, 101, 97, 116]) = false := by rw [show (Px.ba [114, 101, 99, 118]).toList = [114, 101, 99, 118] by rw [toList_data]; rfl]; decide
  generalize Px.ba [114, 101, 99, 118] = TX at *
  replace u1 : W3.cell? ⟨w.heap.size + 1, 1, none⟩ = some (.string TX) := HTW3.out.cell 1 rfl
  have x0_W3 : W3.cell? ⟨B8, 0, none⟩ = some (.int .i64 (0)) := HXW3.out.cell 0 rfl
  have x1_W3 : W3.cell? ⟨B8, 1, none⟩ = some (.string (⟨#[]⟩)) := HXW3.out.cell 1 rfl
  have x2_W3 : W3.cell? ⟨B8, 2, none⟩ = some (.string (⟨#[]⟩)) := HXW3.out.cell 2 rfl
  have x3_W3 : W3.cell? ⟨B8, 3, none⟩ = some (.int .i64 (0)) := HXW3.out.cell 3 rfl
  have x4_W3 : W3.cell? ⟨B8, 4, none⟩ = some (.int .i64 (0)) := HXW3.out.cell 4 rfl
  have x5_W3 : W3.cell? ⟨B8, 5, none⟩ = some (.int .i64 (0)) := HXW3.out.cell 5 rfl
  have x6_W3 : W3.cell? ⟨B8, 6, none⟩ = some (.string (⟨#[]⟩)) := HXW3.out.cell 6 rfl
  have x7_W3 : W3.cell? ⟨B8, 7, none⟩ = some (.slice none 0 0) := HXW3.out.cell 7 rfl
  have x8_W3 : W3.cell? ⟨B8, 8, none⟩ = some (.slice none 0 0) := HXW3.out.cell 8 rfl
  have x9_W3 : W3.cell? ⟨B8, 9, none⟩ = some (.slice none 0 0) := HXW3.out.cell 9 rfl
  have x10_W3 : W3.cell? ⟨B8, 10, none⟩ = some (.complex .f64 X Y) := HXW3.out.cell 10 rfl
  have r0_W3 : W3.cell? ⟨w.heap.size, 0, none⟩ = some (.int .i64 (0)) := HZW3.out.cell 0 rfl
  have r1_W3 : W3.cell? ⟨w.heap.size, 1, none⟩ = some (.string (⟨#[]⟩)) := HZW3.out.cell 1 rfl
  have r2_W3 : W3.cell? ⟨w.heap.size, 2, none⟩ = some (.string (⟨#[]⟩)) := HZW3.out.cell 2 rfl
  have r3_W3 : W3.cell? ⟨w.heap.size, 3, none⟩ = some (.int .i64 (0)) := HZW3.out.cell 3 rfl
  have r4_W3 : W3.cell? ⟨w.heap.size, 4, none⟩ = some (.int .i64 (0)) := HZW3.out.cell 4 rfl
  have r5_W3 : W3.cell? ⟨w.heap.size, 5, none⟩ = some (.int .i64 (0)) := HZW3.out.cell 5 rfl
  have r6_W3 : W3.cell? ⟨w.heap.size, 6, none⟩ = some (.string (⟨#[]⟩)) := HZW3.out.cell 6 rfl
  have r7_W3 : W3.cell? ⟨w.heap.size, 7, none⟩ = some (.slice none 0 0) := HZW3.out.cell 7 rfl
  have r8_W3 : W3.cell? ⟨w.heap.size, 8, none⟩ = some (.slice none 0 0) := HZW3.out.cell 8 rfl
  have r9_W3 : W3.cell? ⟨w.heap.size, 9, none⟩ = some (.slice none 0 0) := HZW3.out.cell 9 rfl
  have r10_W3 : W3.cell? ⟨w.heap.size, 10, none⟩ = some (.complex .f64 0 0) := HZW3.out.cell 10 rfl
  have xf_W3 : ∀ j, W3.frozen? ⟨B8, j, none⟩ = false := HXW3.out.fz
  have rf_W3 : ∀ j, W3.frozen? ⟨w.heap.size, j, none⟩ = false := HZW3.out.fz
  have xl_W3 : B8 < W3.heap.size := HXW3.out.lt
  have rl_W3 : w.heap.size < W3.heap.size := HZW3.out.lt
  obtain ⟨V65, hV65⟩ : ∃ W, (W3).setCell ⟨B8, 0, none⟩ (.int .i64 5) = W := ⟨_, rfl⟩
  have HXV65 : Hid (BoxS V65 B8 (⟨5, ⟨#[]⟩, ⟨#[]⟩, 0, 0, 0, ⟨#[]⟩, none, 0, 0, none, 0, 0, none, 0, 0, X, Y⟩ : Sv).cells) := by rw [← hV65]; exact ((HXW3.out).setv 0 [.int .i64 5] (⟨5, ⟨#[]⟩, ⟨#[]⟩, 0, 0, 0, ⟨#[]⟩, none, 0, 0, none, 0, 0, none, 0, 0, X, Y⟩ : Sv).cells (by show 0 + 1 ≤ 11; decide) rfl)
  have HZV65 : Hid (BoxS V65 w.heap.size (sv0 0 0).cells) := by rw [← hV65]; exact ((HZW3.out).apart hrB 0 [.int .i64 5])
  have HBV65 : Hid (But R w V65) := by rw [← hV65]; exact ((HBW3.out).sets (B := B8) (by omega) 0 [.int .i64 5])
  have HTV65 : Hid (BoxS V65 (w.heap.size + 1) [.int .i64 ((1 : Nat) : Int), .string TX, .int .i64 (nn : Int), .int .i64 (aa : Int)]) := by rw [← hV65]; exact ((HTW3.out).apart htB 0 [.int .i64 5])
  have uV65 : V65.cell? ⟨w.heap.size + 1, 1, none⟩ = some (.string TX) := HTV65.out.cell 1 rfl
  have HQV65 : Hid (Rq V65 R g cap ts (a + 1) false bad) := by rw [← hV65]; exact ((HQW3.out).sets hBR hBg 0 [.int .i64 5])
  cases hnm : isNmT (Px.hd (left ts (a + 1))) with
  | true =>
    have H68 : Hid (isNmT (Px.hd (left ts (a + 1))) = true) := hnm
    have NM : Hid _ := rname_any HQV65.out HA2.out (HOK.out.fit _ (List.getElem_mem HA2.out)) true (by rw [hnm]; rfl)
    go_wp2_with fail
    refine Calls.mono NM.out ?_
    rintro e w66 ⟨⟨v67, rfl, hv⟩, hbn, hz⟩
    have HVv67 : Hid _ := hv
    clear NM
    have HXw66 : Hid (BoxS w66 B8 (⟨5, ⟨#[]⟩, ⟨#[]⟩, 0, 0, 0, ⟨#[]⟩, none, 0, 0, none, 0, 0, none, 0, 0, X, Y⟩ : Sv).cells) := HXV65.out.but hbn hBR
    have HZw66 : Hid (BoxS w66 w.heap.size (sv0 0 0).cells) := HZV65.out.but hbn hrR
    have HBw66 : Hid (But R w w66) := HBV65.out.then hbn
    have HTw66 : Hid (BoxS w66 (w.heap.size + 1) [.int .i64 ((1 : Nat) : Int), .string TX, .int .i64 (nn : Int), .int .i64 (aa : Int)]) := HTV65.out.but hbn htR
    have HQw66 : Hid (Rq w66 R g cap ts ((a + 1) + 1) false bad) := Rz_yes hz
    clear hbn
    have HAL69 : Hid (Pp.Alive (left ts ((a + 1) + 1))) := alive_next HAL2.out (nmt_kind H68.out)
    have HLT70 : Hid ((a + 1) + 1 < ts.length) := alive_lt HAL69.out
    have hP := HPO0.out
    rw [bind_name_yes H68.out, left_tail] at hP
    have HPO71 : Hid _ := hP
    have HWv67 : Hid (v67 = Px.ba (Px.hd (left ts (a + 1))).2.1) := hv trivial
    clear hv hz hnm hP
    clear x0_W3 x1_W3 x2_W3 x3_W3 x4_W3 x5_W3 x6_W3 x7_W3 x8_W3 x9_W3 x10_W3 r0_W3 r1_W3 r2_W3 r3_W3 r4_W3 r5_W3 r6_W3 r7_W3 r8_W3 r9_W3 r10_W3 xf_W3 rf_W3 xl_W3 rl_W3
    have x0_w66 : w66.cell? ⟨B8, 0, none⟩ = some (.int .i64 (5)) := HXw66.out.cell 0 rfl
    have x1_w66 : w66.cell? ⟨B8, 1, none⟩ = some (.string (⟨#[]⟩)) := HXw66.out.cell 1 rfl
    have x2_w66 : w66.cell? ⟨B8, 2, none⟩ = some (.string (⟨#[]⟩)) := HXw66.out.cell 2 rfl
    have x3_w66 : w66.cell? ⟨B8, 3, none⟩ = some (.int .i64 (0)) := HXw66.out.cell 3 rfl
    have x4_w66 : w66.cell? ⟨B8, 4, none⟩ = some (.int .i64 (0)) := HXw66.out.cell 4 rfl
    have x5_w66 : w66.cell? ⟨B8, 5, none⟩ = some (.int .i64 (0)) := HXw66.out.cell 5 rfl
    have x6_w66 : w66.cell? ⟨B8, 6, none⟩ = some (.string (⟨#[]⟩)) := HXw66.out.cell 6 rfl
    have x7_w66 : w66.cell? ⟨B8, 7, none⟩ = some (.slice none 0 0) := HXw66.out.cell 7 rfl
    have x8_w66 : w66.cell? ⟨B8, 8, none⟩ = some (.slice none 0 0) := HXw66.out.cell 8 rfl
    have x9_w66 : w66.cell? ⟨B8, 9, none⟩ = some (.slice none 0 0) := HXw66.out.cell 9 rfl
    have x10_w66 : w66.cell? ⟨B8, 10, none⟩ = some (.complex .f64 X Y) := HXw66.out.cell 10 rfl
    have r0_w66 : w66.cell? ⟨w.heap.size, 0, none⟩ = some (.int .i64 (0)) := HZw66.out.cell 0 rfl
    have r1_w66 : w66.cell? ⟨w.heap.size, 1, none⟩ = some (.string (⟨#[]⟩)) := HZw66.out.cell 1 rfl
    have r2_w66 : w66.cell? ⟨w.heap.size, 2, none⟩ = some (.string (⟨#[]⟩)) := HZw66.out.cell 2 rfl
    have r3_w66 : w66.cell? ⟨w.heap.size, 3, none⟩ = some (.int .i64 (0)) := HZw66.out.cell 3 rfl
    have r4_w66 : w66.cell? ⟨w.heap.size, 4, none⟩ = some (.int .i64 (0)) := HZw66.out.cell 4 rfl
    have r5_w66 : w66.cell? ⟨w.heap.size, 5, none⟩ = some (.int .i64 (0)) := HZw66.out.cell 5 rfl
    have r6_w66 : w66.cell? ⟨w.heap.size, 6, none⟩ = some (.string (⟨#[]⟩)) := HZw66.out.cell 6 rfl
    have r7_w66 : w66.cell? ⟨w.heap.size, 7, none⟩ = some (.slice none 0 0) := HZw66.out.cell 7 rfl
    have r8_w66 : w66.cell? ⟨w.heap.size, 8, none⟩ = some (.slice none 0 0) := HZw66.out.cell 8 rfl
    have r9_w66 : w66.cell? ⟨w.heap.size, 9, none⟩ = some (.slice none 0 0) := HZw66.out.cell 9 rfl
    have r10_w66 : w66.cell? ⟨w.heap.size, 10, none⟩ = some (.complex .f64 0 0) := HZw66.out.cell 10 rfl
    have xf_w66 : ∀ j, w66.frozen? ⟨B8, j, none⟩ = false := HXw66.out.fz
    have rf_w66 : ∀ j, w66.frozen? ⟨w.heap.size, j, none⟩ = false := HZw66.out.fz
    have xl_w66 : B8 < w66.heap.size := HXw66.out.lt
    have rl_w66 : w.heap.size < w66.heap.size := HZw66.out.lt
    obtain ⟨V72, hV72⟩ : ∃ W, (w66).setCell ⟨B8, 1, none⟩ (.string v67) = W := ⟨_, rfl⟩
    have HXV72 : Hid (BoxS V72 B8 (⟨5, v67, ⟨#[]⟩, 0, 0, 0, ⟨#[]⟩, none, 0, 0, none, 0, 0, none, 0, 0, X, Y⟩ : Sv).cells) := by rw [← hV72]; exact ((HXw66.out).setv 1 [.string v67] (⟨5, v67, ⟨#[]⟩, 0, 0, 0, ⟨#[]⟩, none, 0, 0, none, 0, 0, none, 0, 0, X, Y⟩ : Sv).cells (by show 1 + 1 ≤ 11; decide) rfl)
    have HZV72 : Hid (BoxS V72 w.heap.size (sv0 0 0).cells) := by rw [← hV72]; exact ((HZw66.out).apart hrB 1 [.string v67])
    have HBV72 : Hid (But R w V72) := by rw [← hV72]; exact ((HBw66.out).sets (B := B8) (by omega) 1 [.string v67])
    have HTV72 : Hid (BoxS V72 (w.heap.size + 1) [.int .i64 ((1 : Nat) : Int), .string TX, .int .i64 (nn : Int), .int .i64 (aa : Int)]) := by rw [← hV72]; exact ((HTw66.out).apart htB 1 [.string v67])
    have uV72 : V72.cell? ⟨w.heap.size + 1, 1, none⟩ = some (.string TX) := HTV72.out.cell 1 rfl
    have HQV72 : Hid (Rq V72 R g cap ts ((a + 1) + 1) false bad) := by rw [← hV72]; exact ((HQw66.out).sets hBR hBg 1 [.string v67])
    cases hnm : isNmT (Px.hd (left ts ((a + 1) + 1))) with
    | true =>
      have H75 : Hid (isNmT (Px.hd (left ts ((a + 1) + 1))) = true) := hnm
      have NM : Hid _ := rname_any HQV72.out HLT70.out (HOK.out.fit _ (List.getElem_mem HLT70.out)) true (by rw [hnm]; rfl)
      go_wp2_with fail
      refine Calls.mono NM.out ?_
      rintro e w73 ⟨⟨v74, rfl, hv⟩, hbn, hz⟩
      have HVv74 : Hid _ := hv
      clear NM
      have HXw73 : Hid (BoxS w73 B8 (⟨5, v67, ⟨#[]⟩, 0, 0, 0, ⟨#[]⟩, none, 0, 0, none, 0, 0, none, 0, 0, X, Y⟩ : Sv).cells) := HXV72.out.but hbn hBR
      have HZw73 : Hid (BoxS w73 w.heap.size (sv0 0 0).cells) := HZV72.out.but hbn hrR
      have HBw73 : Hid (But R w w73) := HBV72.out.then hbn
      have HTw73 : Hid (BoxS w73 (w.heap.size + 1) [.int .i64 ((1 : Nat) : Int), .string TX, .int .i64 (nn : Int), .int .i64 (aa : Int)]) := HTV72.out.but hbn htR
      have HQw73 : Hid (Rq w73 R g cap ts (((a + 1) + 1) + 1) false bad) := Rz_yes hz
      clear hbn
      have HAL76 : Hid (Pp.Alive (left ts (((a + 1) + 1) + 1))) := alive_next HAL69.out (nmt_kind H75.out)
      have HLT77 : Hid (((a + 1) + 1) + 1 < ts.length) := alive_lt HAL76.out
      have hP := HPO71.out
      rw [bind_name_yes H75.out, left_tail] at hP
      have HPO78 : Hid _ := hP
      have HWv74 : Hid (v74 = Px.ba (Px.hd (left ts ((a + 1) + 1))).2.1) := hv trivial
      clear hv hz hnm hP
      clear x0_w66 x1_w66 x2_w66 x3_w66 x4_w66 x5_w66 x6_w66 x7_w66 x8_w66 x9_w66 x10_w66 r0_w66 r1_w66 r2_w66 r3_w66 r4_w66 r5_w66 r6_w66 r7_w66 r8_w66 r9_w66 r10_w66 xf_w66 rf_w66 xl_w66 rl_w66
      have x0_w73 : w73.cell? ⟨B8, 0, none⟩ = some (.int .i64 (5)) := HXw73.out.cell 0 rfl
      have x1_w73 : w73.cell? ⟨B8, 1, none⟩ = some (.string (v67)) := HXw73.out.cell 1 rfl
      have x2_w73 : w73.cell? ⟨B8, 2, none⟩ = some (.string (⟨#[]⟩)) := HXw73.out.cell 2 rfl
      have x3_w73 : w73.cell? ⟨B8, 3, none⟩ = some (.int .i64 (0)) := HXw73.out.cell 3 rfl
      have x4_w73 : w73.cell? ⟨B8, 4, none⟩ = some (.int .i64 (0)) := HXw73.out.cell 4 rfl
      have x5_w73 : w73.cell? ⟨B8, 5, none⟩ = some (.int .i64 (0)) := HXw73.out.cell 5 rfl
      have x6_w73 : w73.cell? ⟨B8, 6, none⟩ = some (.string (⟨#[]⟩)) := HXw73.out.cell 6 rfl
      have x7_w73 : w73.cell? ⟨B8, 7, none⟩ = some (.slice none 0 0) := HXw73.out.cell 7 rfl
      have x8_w73 : w73.cell? ⟨B8, 8, none⟩ = some (.slice none 0 0) := HXw73.out.cell 8 rfl
      have x9_w73 : w73.cell? ⟨B8, 9, none⟩ = some (.slice none 0 0) := HXw73.out.cell 9 rfl
      have x10_w73 : w73.cell? ⟨B8, 10, none⟩ = some (.complex .f64 X Y) := HXw73.out.cell 10 rfl
      have r0_w73 : w73.cell? ⟨w.heap.size, 0, none⟩ = some (.int .i64 (0)) := HZw73.out.cell 0 rfl
      have r1_w73 : w73.cell? ⟨w.heap.size, 1, none⟩ = some (.string (⟨#[]⟩)) := HZw73.out.cell 1 rfl
      have r2_w73 : w73.cell? ⟨w.heap.size, 2, none⟩ = some (.string (⟨#[]⟩)) := HZw73.out.cell 2 rfl
      have r3_w73 : w73.cell? ⟨w.heap.size, 3, none⟩ = some (.int .i64 (0)) := HZw73.out.cell 3 rfl
      have r4_w73 : w73.cell? ⟨w.heap.size, 4, none⟩ = some (.int .i64 (0)) := HZw73.out.cell 4 rfl
      have r5_w73 : w73.cell? ⟨w.heap.size, 5, none⟩ = some (.int .i64 (0)) := HZw73.out.cell 5 rfl
      have r6_w73 : w73.cell? ⟨w.heap.size, 6, none⟩ = some (.string (⟨#[]⟩)) := HZw73.out.cell 6 rfl
      have r7_w73 : w73.cell? ⟨w.heap.size, 7, none⟩ = some (.slice none 0 0) := HZw73.out.cell 7 rfl
      have r8_w73 : w73.cell? ⟨w.heap.size, 8, none⟩ = some (.slice none 0 0) := HZw73.out.cell 8 rfl
      have r9_w73 : w73.cell? ⟨w.heap.size, 9, none⟩ = some (.slice none 0 0) := HZw73.out.cell 9 rfl
      have r10_w73 : w73.cell? ⟨w.heap.size, 10, none⟩ = some (.complex .f64 0 0) := HZw73.out.cell 10 rfl
      have xf_w73 : ∀ j, w73.frozen? ⟨B8, j, none⟩ = false := HXw73.out.fz
      have rf_w73 : ∀ j, w73.frozen? ⟨w.heap.size, j, none⟩ = false := HZw73.out.fz
      have xl_w73 : B8 < w73.heap.size := HXw73.out.lt
      have rl_w73 : w.heap.size < w73.heap.size := HZw73.out.lt
      obtain ⟨V79, hV79⟩ : ∃ W, (w73).setCell ⟨B8, 2, none⟩ (.string v74) = W := ⟨_, rfl⟩
      have HXV79 : Hid (BoxS V79 B8 (⟨5, v67, v74, 0, 0, 0, ⟨#[]⟩, none, 0, 0, none, 0, 0, none, 0, 0, X, Y⟩ : Sv).cells) := by rw [← hV79]; exact ((HXw73.out).setv 2 [.string v74] (⟨5, v67, v74, 0, 0, 0, ⟨#[]⟩, none, 0, 0, none, 0, 0, none, 0, 0, X, Y⟩ : Sv).cells (by show 2 + 1 ≤ 11; decide) rfl)
      have HZV79 : Hid (BoxS V79 w.heap.size (sv0 0 0).cells) := by rw [← hV79]; exact ((HZw73.out).apart hrB 2 [.string v74])
      have HBV79 : Hid (But R w V79) := by rw [← hV79]; exact ((HBw73.out).sets (B := B8) (by omega) 2 [.string v74])
      have HTV79 : Hid (BoxS V79 (w.heap.size + 1) [.int .i64 ((1 : Nat) : Int), .string TX, .int .i64 (nn : Int), .int .i64 (aa : Int)]) := by rw [← hV79]; exact ((HTw73.out).apart htB 2 [.string v74])
      have uV79 : V79.cell? ⟨w.heap.size + 1, 1, none⟩ = some (.string TX) := HTV79.out.cell 1 rfl
      have HQV79 : Hid (Rq V79 R g cap ts (((a + 1) + 1) + 1) false bad) := by rw [← hV79]; exact ((HQw73.out).sets hBR hBg 2 [.string v74])
      have x0_V79 : V79.cell? ⟨B8, 0, none⟩ = some (.int .i64 (5)) := HXV79.out.cell 0 rfl
      have x1_V79 : V79.cell? ⟨B8, 1, none⟩ = some (.string (v67)) := HXV79.out.cell 1 rfl
      have x2_V79 : V79.cell? ⟨B8, 2, none⟩ = some (.string (v74)) := HXV79.out.cell 2 rfl
      have x3_V79 : V79.cell? ⟨B8, 3, none⟩ = some (.int .i64 (0)) := HXV79.out.cell 3 rfl
      have x4_V79 : V79.cell? ⟨B8, 4, none⟩ = some (.int .i64 (0)) := HXV79.out.cell 4 rfl
      have x5_V79 : V79.cell? ⟨B8, 5, none⟩ = some (.int .i64 (0)) := HXV79.out.cell 5 rfl
      have x6_V79 : V79.cell? ⟨B8, 6, none⟩ = some (.string (⟨#[]⟩)) := HXV79.out.cell 6 rfl
      have x7_V79 : V79.cell? ⟨B8, 7, none⟩ = some (.slice none 0 0) := HXV79.out.cell 7 rfl
      have x8_V79 : V79.cell? ⟨B8, 8, none⟩ = some (.slice none 0 0) := HXV79.out.cell 8 rfl
      have x9_V79 : V79.cell? ⟨B8, 9, none⟩ = some (.slice none 0 0) := HXV79.out.cell 9 rfl
      have x10_V79 : V79.cell? ⟨B8, 10, none⟩ = some (.complex .f64 X Y) := HXV79.out.cell 10 rfl
      have r0_V79 : V79.cell? ⟨w.heap.size, 0, none⟩ = some (.int .i64 (0)) := HZV79.out.cell 0 rfl
      have r1_V79 : V79.cell? ⟨w.heap.size, 1, none⟩ = some (.string (⟨#[]⟩)) := HZV79.out.cell 1 rfl
      have r2_V79 : V79.cell? ⟨w.heap.size, 2, none⟩ = some (.string (⟨#[]⟩)) := HZV79.out.cell 2 rfl
      have r3_V79 : V79.cell? ⟨w.heap.size, 3, none⟩ = some (.int .i64 (0)) := HZV79.out.cell 3 rfl
      have r4_V79 : V79.cell? ⟨w.heap.size, 4, none⟩ = some (.int .i64 (0)) := HZV79.out.cell 4 rfl
      have r5_V79 : V79.cell? ⟨w.heap.size, 5, none⟩ = some (.int .i64 (0)) := HZV79.out.cell 5 rfl
      have r6_V79 : V79.cell? ⟨w.heap.size, 6, none⟩ = some (.string (⟨#[]⟩)) := HZV79.out.cell 6 rfl
      have r7_V79 : V79.cell? ⟨w.heap.size, 7, none⟩ = some (.slice none 0 0) := HZV79.out.cell 7 rfl
      have r8_V79 : V79.cell? ⟨w.heap.size, 8, none⟩ = some (.slice none 0 0) := HZV79.out.cell 8 rfl
      have r9_V79 : V79.cell? ⟨w.heap.size, 9, none⟩ = some (.slice none 0 0) := HZV79.out.cell 9 rfl
      have r10_V79 : V79.cell? ⟨w.heap.size, 10, none⟩ = some (.complex .f64 0 0) := HZV79.out.cell 10 rfl
      have xf_V79 : ∀ j, V79.frozen? ⟨B8, j, none⟩ = false := HXV79.out.fz
      have rf_V79 : ∀ j, V79.frozen? ⟨w.heap.size, j, none⟩ = false := HZV79.out.fz
      have xl_V79 : B8 < V79.heap.size := HXV79.out.lt
      have rl_V79 : w.heap.size < V79.heap.size := HZV79.out.lt
      go_wp2_with fail
      have hP := HPO78.out
      simp only [Pp.ret, Prod.mk.injEq] at hP
      obtain ⟨hO1, hO2⟩ := hP
      subst hO1 hO2
      refine reds_end (⟨5, v67, v74, 0, 0, 0, ⟨#[]⟩, none, 0, 0, none, 0, 0, none, 0, 0, X, Y⟩ : Sv) rfl HZV79.out HBV79.out hRw HGW.out (fun x hx => ?_) (fun hx => by cases hx)
      cases hx
      refine ⟨⟨rfl, HWv67.out, HWv74.out, rfl, rfl, rfl, rfl, rfl, rfl, ExsD.nil _ _, StsD.nil' _ _, StsD.nil' _ _⟩, ?_⟩
      rw [show ts.length - (left ts (((a + 1) + 1) + 1)).length = (((a + 1) + 1) + 1) by rw [left_len]; have := HLT77.out; omega]
      exact HQV79.out
    | false =>
      have H82 : Hid (isNmT (Px.hd (left ts ((a + 1) + 1))) = false) := hnm
      have NM : Hid _ := rname_any HQV72.out HLT70.out (HOK.out.fit _ (List.getElem_mem HLT70.out)) false (by rw [hnm]; rfl)
      go_wp2_with fail
      refine Calls.mono NM.out ?_
      rintro e w80 ⟨⟨v81, rfl, hv⟩, hbn, hz⟩
      have HVv81 : Hid _ := hv
      clear NM
      have HXw80 : Hid (BoxS w80 B8 (⟨5, v67, ⟨#[]⟩, 0, 0, 0, ⟨#[]⟩, none, 0, 0, none, 0, 0, none, 0, 0, X, Y⟩ : Sv).cells) := HXV72.out.but hbn hBR
      have HZw80 : Hid (BoxS w80 w.heap.size (sv0 0 0).cells) := HZV72.out.but hbn hrR
      have HBw80 : Hid (But R w w80) := HBV72.out.then hbn
      have HTw80 : Hid (BoxS w80 (w.heap.size + 1) [.int .i64 ((1 : Nat) : Int), .string TX, .int .i64 (nn : Int), .int .i64 (aa : Int)]) := HTV72.out.but hbn htR
      have HQw80 : Hid (Rq w80 R g cap ts ((a + 1) + 1) true ((a + 1) + 1)) := Rz_no hz
      clear hbn
      have hP := HPO71.out
      rw [bind_name_no (nm_no HOK.out HLT70.out H82.out)] at hP
      simp only [Prod.mk.injEq] at hP
      have HPO83 : Hid (o = none ∧ m = (left ts ((a + 1) + 1))) := ⟨hP.1.symm, hP.2.symm⟩
      clear hv hz hnm hP
      clear x0_w66 x1_w66 x2_w66 x3_w66 x4_w66 x5_w66 x6_w66 x7_w66 x8_w66 x9_w66 x10_w66 r0_w66 r1_w66 r2_w66 r3_w66 r4_w66 r5_w66 r6_w66 r7_w66 r8_w66 r9_w66 r10_w66 xf_w66 rf_w66 xl_w66 rl_w66
      have x0_w80 : w80.cell? ⟨B8, 0, none⟩ = some (.int .i64 (5)) := HXw80.out.cell 0 rfl
      have x1_w80 : w80.cell? ⟨B8, 1, none⟩ = some (.string (v67)) := HXw80.out.cell 1 rfl
      have x2_w80 : w80.cell? ⟨B8, 2, none⟩ = some (.string (⟨#[]⟩)) := HXw80.out.cell 2 rfl
      have x3_w80 : w80.cell? ⟨B8, 3, none⟩ = some (.int .i64 (0)) := HXw80.out.cell 3 rfl
      have x4_w80 : w80.cell? ⟨B8, 4, none⟩ = some (.int .i64 (0)) := HXw80.out.cell 4 rfl
      have x5_w80 : w80.cell? ⟨B8, 5, none⟩ = some (.int .i64 (0)) := HXw80.out.cell 5 rfl
      have x6_w80 : w80.cell? ⟨B8, 6, none⟩ = some (.string (⟨#[]⟩)) := HXw80.out.cell 6 rfl
      have x7_w80 : w80.cell? ⟨B8, 7, none⟩ = some (.slice none 0 0) := HXw80.out.cell 7 rfl
      have x8_w80 : w80.cell? ⟨B8, 8, none⟩ = some (.slice none 0 0) := HXw80.out.cell 8 rfl
      have x9_w80 : w80.cell? ⟨B8, 9, none⟩ = some (.slice none 0 0) := HXw80.out.cell 9 rfl
      have x10_w80 : w80.cell? ⟨B8, 10, none⟩ = some (.complex .f64 X Y) := HXw80.out.cell 10 rfl
      have r0_w80 : w80.cell? ⟨w.heap.size, 0, none⟩ = some (.int .i64 (0)) := HZw80.out.cell 0 rfl
      have r1_w80 : w80.cell? ⟨w.heap.size, 1, none⟩ = some (.string (⟨#[]⟩)) := HZw80.out.cell 1 rfl
      have r2_w80 : w80.cell? ⟨w.heap.size, 2, none⟩ = some (.string (⟨#[]⟩)) := HZw80.out.cell 2 rfl
      have r3_w80 : w80.cell? ⟨w.heap.size, 3, none⟩ = some (.int .i64 (0)) := HZw80.out.cell 3 rfl
      have r4_w80 : w80.cell? ⟨w.heap.size, 4, none⟩ = some (.int .i64 (0)) := HZw80.out.cell 4 rfl
      have r5_w80 : w80.cell? ⟨w.heap.size, 5, none⟩ = some (.int .i64 (0)) := HZw80.out.cell 5 rfl
      have r6_w80 : w80.cell? ⟨w.heap.size, 6, none⟩ = some (.string (⟨#[]⟩)) := HZw80.out.cell 6 rfl
      have r7_w80 : w80.cell? ⟨w.heap.size, 7, none⟩ = some (.slice none 0 0) := HZw80.out.cell 7 rfl
      have r8_w80 : w80.cell? ⟨w.heap.size, 8, none⟩ = some (.slice none 0 0) := HZw80.out.cell 8 rfl
      have r9_w80 : w80.cell? ⟨w.heap.size, 9, none⟩ = some (.slice none 0 0) := HZw80.out.cell 9 rfl
      have r10_w80 : w80.cell? ⟨w.heap.size, 10, none⟩ = some (.complex .f64 0 0) := HZw80.out.cell 10 rfl
      have xf_w80 : ∀ j, w80.frozen? ⟨B8, j, none⟩ = false := HXw80.out.fz
      have rf_w80 : ∀ j, w80.frozen? ⟨w.heap.size, j, none⟩ = false := HZw80.out.fz
      have xl_w80 : B8 < w80.heap.size := HXw80.out.lt
      have rl_w80 : w.heap.size < w80.heap.size := HZw80.out.lt
      obtain ⟨V84, hV84⟩ : ∃ W, (w80).setCell ⟨B8, 2, none⟩ (.string v81) = W := ⟨_, rfl⟩
      have HXV84 : Hid (BoxS V84 B8 (⟨5, v67, v81, 0, 0, 0, ⟨#[]⟩, none, 0, 0, none, 0, 0, none, 0, 0, X, Y⟩ : Sv).cells) := by rw [← hV84]; exact ((HXw80.out).setv 2 [.string v81] (⟨5, v67, v81, 0, 0, 0, ⟨#[]⟩, none, 0, 0, none, 0, 0, none, 0, 0, X, Y⟩ : Sv).cells (by show 2 + 1 ≤ 11; decide) rfl)
      have HZV84 : Hid (BoxS V84 w.heap.size (sv0 0 0).cells) := by rw [← hV84]; exact ((HZw80.out).apart hrB 2 [.string v81])
      have HBV84 : Hid (But R w V84) := by rw [← hV84]; exact ((HBw80.out).sets (B := B8) (by omega) 2 [.string v81])
      have HTV84 : Hid (BoxS V84 (w.heap.size + 1) [.int .i64 ((1 : Nat) : Int), .string TX, .int .i64 (nn : Int), .int .i64 (aa : Int)]) := by rw [← hV84]; exact ((HTw80.out).apart htB 2 [.string v81])
      have uV84 : V84.cell? ⟨w.heap.size + 1, 1, none⟩ = some (.string TX) := HTV84.out.cell 1 rfl
      have HQV84 : Hid (Rq V84 R g cap ts ((a + 1) + 1) true ((a + 1) + 1)) := by rw [← hV84]; exact ((HQw80.out).sets hBR hBg 2 [.string v81])
      have x0_V84 : V84.cell? ⟨B8, 0, none⟩ = some (.int .i64 (5)) := HXV84.out.cell 0 rfl
      have x1_V84 : V84.cell? ⟨B8, 1, none⟩ = some (.string (v67)) := HXV84.out.cell 1 rfl
      have x2_V84 : V84.cell? ⟨B8, 2, none⟩ = some (.string (v81)) := HXV84.out.cell 2 rfl
      have x3_V84 : V84.cell? ⟨B8, 3, none⟩ = some (.int .i64 (0)) := HXV84.out.cell 3 rfl
      have x4_V84 : V84.cell? ⟨B8, 4, none⟩ = some (.int .i64 (0)) := HXV84.out.cell 4 rfl
      have x5_V84 : V84.cell? ⟨B8, 5, none⟩ = some (.int .i64 (0)) := HXV84.out.cell 5 rfl
      have x6_V84 : V84.cell? ⟨B8, 6, none⟩ = some (.string (⟨#[]⟩)) := HXV84.out.cell 6 rfl
      have x7_V84 : V84.cell? ⟨B8, 7, none⟩ = some (.slice none 0 0) := HXV84.out.cell 7 rfl
      have x8_V84 : V84.cell? ⟨B8, 8, none⟩ = some (.slice none 0 0) := HXV84.out.cell 8 rfl
      have x9_V84 : V84.cell? ⟨B8, 9, none⟩ = some (.slice none 0 0) := HXV84.out.cell 9 rfl
      have x10_V84 : V84.cell? ⟨B8, 10, none⟩ = some (.complex .f64 X Y) := HXV84.out.cell 10 rfl
      have r0_V84 : V84.cell? ⟨w.heap.size, 0, none⟩ = some (.int .i64 (0)) := HZV84.out.cell 0 rfl
      have r1_V84 : V84.cell? ⟨w.heap.size, 1, none⟩ = some (.string (⟨#[]⟩)) := HZV84.out.cell 1 rfl
      have r2_V84 : V84.cell? ⟨w.heap.size, 2, none⟩ = some (.string (⟨#[]⟩)) := HZV84.out.cell 2 rfl
      have r3_V84 : V84.cell? ⟨w.heap.size, 3, none⟩ = some (.int .i64 (0)) := HZV84.out.cell 3 rfl
      have r4_V84 : V84.cell? ⟨w.heap.size, 4, none⟩ = some (.int .i64 (0)) := HZV84.out.cell 4 rfl
      have r5_V84 : V84.cell? ⟨w.heap.size, 5, none⟩ = some (.int .i64 (0)) := HZV84.out.cell 5 rfl
      have r6_V84 : V84.cell? ⟨w.heap.size, 6, none⟩ = some (.string (⟨#[]⟩)) := HZV84.out.cell 6 rfl
      have r7_V84 : V84.cell? ⟨w.heap.size, 7, none⟩ = some (.slice none 0 0) := HZV84.out.cell 7 rfl
      have r8_V84 : V84.cell? ⟨w.heap.size, 8, none⟩ = some (.slice none 0 0) := HZV84.out.cell 8 rfl
      have r9_V84 : V84.cell? ⟨w.heap.size, 9, none⟩ = some (.slice none 0 0) := HZV84.out.cell 9 rfl
      have r10_V84 : V84.cell? ⟨w.heap.size, 10, none⟩ = some (.complex .f64 0 0) := HZV84.out.cell 10 rfl
      have xf_V84 : ∀ j, V84.frozen? ⟨B8, j, none⟩ = false := HXV84.out.fz
      have rf_V84 : ∀ j, V84.frozen? ⟨w.heap.size, j, none⟩ = false := HZV84.out.fz
      have xl_V84 : B8 < V84.heap.size := HXV84.out.lt
      have rl_V84 : w.heap.size < V84.heap.size := HZV84.out.lt
      go_wp2_with fail
      obtain ⟨hO1, hO2⟩ := HPO83.out
      subst hO1 hO2
      refine reds_end (⟨5, v67, v81, 0, 0, 0, ⟨#[]⟩, none, 0, 0, none, 0, 0, none, 0, 0, X, Y⟩ : Sv) rfl HZV84.out HBV84.out hRw HGW.out ?hsome (fun _ => ⟨((a + 1) + 1), HLT70.out, ?_⟩)
      case hsome => exact fun x hx => by cases hx
      rw [show ts.length - (left ts ((a + 1) + 1)).length = ((a + 1) + 1) by rw [left_len]; have := HLT70.out; omega]
      exact HQV84.out
  | false =>
    have H87 : Hid (isNmT (Px.hd (left ts (a + 1))) = false) := hnm
    have NM : Hid _ := rname_any HQV65.out HA2.out (HOK.out.fit _ (List.getElem_mem HA2.out)) false (by rw [hnm]; rfl)
    go_wp2_with fail
    refine Calls.mono NM.out ?_
    rintro e w85 ⟨⟨v86, rfl, hv⟩, hbn, hz⟩
    have HVv86 : Hid _ := hv
    clear NM
    have HXw85 : Hid (BoxS w85 B8 (⟨5, ⟨#[]⟩, ⟨#[]⟩, 0, 0, 0, ⟨#[]⟩, none, 0, 0, none, 0, 0, none, 0, 0, X, Y⟩ : Sv).cells) := HXV65.out.but hbn hBR
    have HZw85 : Hid (BoxS w85 w.heap.size (sv0 0 0).cells) := HZV65.out.but hbn hrR
    have HBw85 : Hid (But R w w85) := HBV65.out.then hbn
    have HTw85 : Hid (BoxS w85 (w.heap.size + 1) [.int .i64 ((1 : Nat) : Int), .string TX, .int .i64 (nn : Int), .int .i64 (aa : Int)]) := HTV65.out.but hbn htR
    have HQw85 : Hid (Rq w85 R g cap ts (a + 1) true (a + 1)) := Rz_no hz
    clear hbn
    have hP := HPO0.out
    rw [bind_name_no (nm_no HOK.out HA2.out H87.out)] at hP
    simp only [Prod.mk.injEq] at hP
    have HPO88 : Hid (o = none ∧ m = (left ts (a + 1))) := ⟨hP.1.symm, hP.2.symm⟩
    clear hv hz hnm hP
    clear x0_W3 x1_W3 x2_W3 x3_W3 x4_W3 x5_W3 x6_W3 x7_W3 x8_W3 x9_W3 x10_W3 r0_W3 r1_W3 r2_W3 r3_W3 r4_W3 r5_W3 r6_W3 r7_W3 r8_W3 r9_W3 r10_W3 xf_W3 rf_W3 xl_W3 rl_W3
    have x0_w85 : w85.cell? ⟨B8, 0, none⟩ = some (.int .i64 (5)) := HXw85.out.cell 0 rfl
    have x1_w85 : w85.cell? ⟨B8, 1, none⟩ = some (.string (⟨#[]⟩)) := HXw85.out.cell 1 rfl
    have x2_w85 : w85.cell? ⟨B8, 2, none⟩ = some (.string (⟨#[]⟩)) := HXw85.out.cell 2 rfl
    have x3_w85 : w85.cell? ⟨B8, 3, none⟩ = some (.int .i64 (0)) := HXw85.out.cell 3 rfl
    have x4_w85 : w85.cell? ⟨B8, 4, none⟩ = some (.int .i64 (0)) := HXw85.out.cell 4 rfl
    have x5_w85 : w85.cell? ⟨B8, 5, none⟩ = some (.int .i64 (0)) := HXw85.out.cell 5 rfl
    have x6_w85 : w85.cell? ⟨B8, 6, none⟩ = some (.string (⟨#[]⟩)) := HXw85.out.cell 6 rfl
    have x7_w85 : w85.cell? ⟨B8, 7, none⟩ = some (.slice none 0 0) := HXw85.out.cell 7 rfl
    have x8_w85 : w85.cell? ⟨B8, 8, none⟩ = some (.slice none 0 0) := HXw85.out.cell 8 rfl
    have x9_w85 : w85.cell? ⟨B8, 9, none⟩ = some (.slice none 0 0) := HXw85.out.cell 9 rfl
    have x10_w85 : w85.cell? ⟨B8, 10, none⟩ = some (.complex .f64 X Y) := HXw85.out.cell 10 rfl
    have r0_w85 : w85.cell? ⟨w.heap.size, 0, none⟩ = some (.int .i64 (0)) := HZw85.out.cell 0 rfl
    have r1_w85 : w85.cell? ⟨w.heap.size, 1, none⟩ = some (.string (⟨#[]⟩)) := HZw85.out.cell 1 rfl
    have r2_w85 : w85.cell? ⟨w.heap.size, 2, none⟩ = some (.string (⟨#[]⟩)) := HZw85.out.cell 2 rfl
    have r3_w85 : w85.cell? ⟨w.heap.size, 3, none⟩ = some (.int .i64 (0)) := HZw85.out.cell 3 rfl
    have r4_w85 : w85.cell? ⟨w.heap.size, 4, none⟩ = some (.int .i64 (0)) := HZw85.out.cell 4 rfl
    have r5_w85 : w85.cell? ⟨w.heap.size, 5, none⟩ = some (.int .i64 (0)) := HZw85.out.cell 5 rfl
    have r6_w85 : w85.cell? ⟨w.heap.size, 6, none⟩ = some (.string (⟨#[]⟩)) := HZw85.out.cell 6 rfl
    have r7_w85 : w85.cell? ⟨w.heap.size, 7, none⟩ = some (.slice none 0 0) := HZw85.out.cell 7 rfl
    have r8_w85 : w85.cell? ⟨w.heap.size, 8, none⟩ = some (.slice none 0 0) := HZw85.out.cell 8 rfl
    have r9_w85 : w85.cell? ⟨w.heap.size, 9, none⟩ = some (.slice none 0 0) := HZw85.out.cell 9 rfl
    have r10_w85 : w85.cell? ⟨w.heap.size, 10, none⟩ = some (.complex .f64 0 0) := HZw85.out.cell 10 rfl
    have xf_w85 : ∀ j, w85.frozen? ⟨B8, j, none⟩ = false := HXw85.out.fz
    have rf_w85 : ∀ j, w85.frozen? ⟨w.heap.size, j, none⟩ = false := HZw85.out.fz
    have xl_w85 : B8 < w85.heap.size := HXw85.out.lt
    have rl_w85 : w.heap.size < w85.heap.size := HZw85.out.lt
    obtain ⟨V89, hV89⟩ : ∃ W, (w85).setCell ⟨B8, 1, none⟩ (.string v86) = W := ⟨_, rfl⟩
    have HXV89 : Hid (BoxS V89 B8 (⟨5, v86, ⟨#[]⟩, 0, 0, 0, ⟨#[]⟩, none, 0, 0, none, 0, 0, none, 0, 0, X, Y⟩ : Sv).cells) := by rw [← hV89]; exact ((HXw85.out).setv 1 [.string v86] (⟨5, v86, ⟨#[]⟩, 0, 0, 0, ⟨#[]⟩, none, 0, 0, none, 0, 0, none, 0, 0, X, Y⟩ : Sv).cells (by show 1 + 1 ≤ 11; decide) rfl)
    have HZV89 : Hid (BoxS V89 w.heap.size (sv0 0 0).cells) := by rw [← hV89]; exact ((HZw85.out).apart hrB 1 [.string v86])
    have HBV89 : Hid (But R w V89) := by rw [← hV89]; exact ((HBw85.out).sets (B := B8) (by omega) 1 [.string v86])
    have HTV89 : Hid (BoxS V89 (w.heap.size + 1) [.int .i64 ((1 : Nat) : Int), .string TX, .int .i64 (nn : Int), .int .i64 (aa : Int)]) := by rw [← hV89]; exact ((HTw85.out).apart htB 1 [.string v86])
    have uV89 : V89.cell? ⟨w.heap.size + 1, 1, none⟩ = some (.string TX) := HTV89.out.cell 1 rfl
    have HQV89 : Hid (Rq V89 R g cap ts (a + 1) true (a + 1)) := by rw [← hV89]; exact ((HQw85.out).sets hBR hBg 1 [.string v86])
    have NM : Hid _ := rname_any HQV89.out HA2.out (HOK.out.fit _ (List.getElem_mem HA2.out)) false rfl
    go_wp2_with fail
    refine Calls.mono NM.out ?_
    rintro e w90 ⟨⟨v91, rfl, hv⟩, hbn, hz⟩
    have HVv91 : Hid _ := hv
    clear NM
    have HXw90 : Hid (BoxS w90 B8 (⟨5, v86, ⟨#[]⟩, 0, 0, 0, ⟨#[]⟩, none, 0, 0, none, 0, 0, none, 0, 0, X, Y⟩ : Sv).cells) := HXV89.out.but hbn hBR
    have HZw90 : Hid (BoxS w90 w.heap.size (sv0 0 0).cells) := HZV89.out.but hbn hrR
    have HBw90 : Hid (But R w w90) := HBV89.out.then hbn
    have HTw90 : Hid (BoxS w90 (w.heap.size + 1) [.int .i64 ((1 : Nat) : Int), .string TX, .int .i64 (nn : Int), .int .i64 (aa : Int)]) := HTV89.out.but hbn htR
    have HQw90 : Hid (Rq w90 R g cap ts (a + 1) true (a + 1)) := hz
    clear hbn
    clear hv hz
    clear x0_w85 x1_w85 x2_w85 x3_w85 x4_w85 x5_w85 x6_w85 x7_w85 x8_w85 x9_w85 x10_w85 r0_w85 r1_w85 r2_w85 r3_w85 r4_w85 r5_w85 r6_w85 r7_w85 r8_w85 r9_w85 r10_w85 xf_w85 rf_w85 xl_w85 rl_w85
    have x0_w90 : w90.cell? ⟨B8, 0, none⟩ = some (.int .i64 (5)) := HXw90.out.cell 0 rfl
    have x1_w90 : w90.cell? ⟨B8, 1, none⟩ = some (.string (v86)) := HXw90.out.cell 1 rfl
    have x2_w90 : w90.cell? ⟨B8, 2, none⟩ = some (.string (⟨#[]⟩)) := HXw90.out.cell 2 rfl
    have x3_w90 : w90.cell? ⟨B8, 3, none⟩ = some (.int .i64 (0)) := HXw90.out.cell 3 rfl
    have x4_w90 : w90.cell? ⟨B8, 4, none⟩ = some (.int .i64 (0)) := HXw90.out.cell 4 rfl
    have x5_w90 : w90.cell? ⟨B8, 5, none⟩ = some (.int .i64 (0)) := HXw90.out.cell 5 rfl
    have x6_w90 : w90.cell? ⟨B8, 6, none⟩ = some (.string (⟨#[]⟩)) := HXw90.out.cell 6 rfl
    have x7_w90 : w90.cell? ⟨B8, 7, none⟩ = some (.slice none 0 0) := HXw90.out.cell 7 rfl
    have x8_w90 : w90.cell? ⟨B8, 8, none⟩ = some (.slice none 0 0) := HXw90.out.cell 8 rfl
    have x9_w90 : w90.cell? ⟨B8, 9, none⟩ = some (.slice none 0 0) := HXw90.out.cell 9 rfl
    have x10_w90 : w90.cell? ⟨B8, 10, none⟩ = some (.complex .f64 X Y) := HXw90.out.cell 10 rfl
    have r0_w90 : w90.cell? ⟨w.heap.size, 0, none⟩ = some (.int .i64 (0)) := HZw90.out.cell 0 rfl
    have r1_w90 : w90.cell? ⟨w.heap.size, 1, none⟩ = some (.string (⟨#[]⟩)) := HZw90.out.cell 1 rfl
    have r2_w90 : w90.cell? ⟨w.heap.size, 2, none⟩ = some (.string (⟨#[]⟩)) := HZw90.out.cell 2 rfl
    have r3_w90 : w90.cell? ⟨w.heap.size, 3, none⟩ = some (.int .i64 (0)) := HZw90.out.cell 3 rfl
    have r4_w90 : w90.cell? ⟨w.heap.size, 4, none⟩ = some (.int .i64 (0)) := HZw90.out.cell 4 rfl
    have r5_w90 : w90.cell? ⟨w.heap.size, 5, none⟩ = some (.int .i64 (0)) := HZw90.out.cell 5 rfl
    have r6_w90 : w90.cell? ⟨w.heap.size, 6, none⟩ = some (.string (⟨#[]⟩)) := HZw90.out.cell 6 rfl
    have r7_w90 : w90.cell? ⟨w.heap.size, 7, none⟩ = some (.slice none 0 0) := HZw90.out.cell 7 rfl
    have r8_w90 : w90.cell? ⟨w.heap.size, 8, none⟩ = some (.slice none 0 0) := HZw90.out.cell 8 rfl
    have r9_w90 : w90.cell? ⟨w.heap.size, 9, none⟩ = some (.slice none 0 0) := HZw90.out.cell 9 rfl
    have r10_w90 : w90.cell? ⟨w.heap.size, 10, none⟩ = some (.complex .f64 0 0) := HZw90.out.cell 10 rfl
    have xf_w90 : ∀ j, w90.frozen? ⟨B8, j, none⟩ = false := HXw90.out.fz
    have rf_w90 : ∀ j, w90.frozen? ⟨w.heap.size, j, none⟩ = false := HZw90.out.fz
    have xl_w90 : B8 < w90.heap.size := HXw90.out.lt
    have rl_w90 : w.heap.size < w90.heap.size := HZw90.out.lt
    obtain ⟨V92, hV92⟩ : ∃ W, (w90).setCell ⟨B8, 2, none⟩ (.string v91) = W := ⟨_, rfl⟩
    have HXV92 : Hid (BoxS V92 B8 (⟨5, v86, v91, 0, 0, 0, ⟨#[]⟩, none, 0, 0, none, 0, 0, none, 0, 0, X, Y⟩ : Sv).cells) := by rw [← hV92]; exact ((HXw90.out).setv 2 [.string v91] (⟨5, v86, v91, 0, 0, 0, ⟨#[]⟩, none, 0, 0, none, 0, 0, none, 0, 0, X, Y⟩ : Sv).cells (by show 2 + 1 ≤ 11; decide) rfl)
    have HZV92 : Hid (BoxS V92 w.heap.size (sv0 0 0).cells) := by rw [← hV92]; exact ((HZw90.out).apart hrB 2 [.string v91])
    have HBV92 : Hid (But R w V92) := by rw [← hV92]; exact ((HBw90.out).sets (B := B8) (by omega) 2 [.string v91])
    have HTV92 : Hid (BoxS V92 (w.heap.size + 1) [.int .i64 ((1 : Nat) : Int), .string TX, .int .i64 (nn : Int), .int .i64 (aa : Int)]) := by rw [← hV92]; exact ((HTw90.out).apart htB 2 [.string v91])
    have uV92 : V92.cell? ⟨w.heap.size + 1, 1, none⟩ = some (.string TX) := HTV92.out.cell 1 rfl
    have HQV92 : Hid (Rq V92 R g cap ts (a + 1) true (a + 1)) := by rw [← hV92]; exact ((HQw90.out).sets hBR hBg 2 [.string v91])
    have x0_V92 : V92.cell? ⟨B8, 0, none⟩ = some (.int .i64 (5)) := HXV92.out.cell 0 rfl
    have x1_V92 : V92.cell? ⟨B8, 1, none⟩ = some (.string (v86)) := HXV92.out.cell 1 rfl
    have x2_V92 : V92.cell? ⟨B8, 2, none⟩ = some (.string (v91)) := HXV92.out.cell 2 rfl
    have x3_V92 : V92.cell? ⟨B8, 3, none⟩ = some (.int .i64 (0)) := HXV92.out.cell 3 rfl
    have x4_V92 : V92.cell? ⟨B8, 4, none⟩ = some (.int .i64 (0)) := HXV92.out.cell 4 rfl
    have x5_V92 : V92.cell? ⟨B8, 5, none⟩ = some (.int .i64 (0)) := HXV92.out.cell 5 rfl
    have x6_V92 : V92.cell? ⟨B8, 6, none⟩ = some (.string (⟨#[]⟩)) := HXV92.out.cell 6 rfl
    have x7_V92 : V92.cell? ⟨B8, 7, none⟩ = some (.slice none 0 0) := HXV92.out.cell 7 rfl
    have x8_V92 : V92.cell? ⟨B8, 8, none⟩ = some (.slice none 0 0) := HXV92.out.cell 8 rfl
    have x9_V92 : V92.cell? ⟨B8, 9, none⟩ = some (.slice none 0 0) := HXV92.out.cell 9 rfl
    have x10_V92 : V92.cell? ⟨B8, 10, none⟩ = some (.complex .f64 X Y) := HXV92.out.cell 10 rfl
    have r0_V92 : V92.cell? ⟨w.heap.size, 0, none⟩ = some (.int .i64 (0)) := HZV92.out.cell 0 rfl
    have r1_V92 : V92.cell? ⟨w.heap.size, 1, none⟩ = some (.string (⟨#[]⟩)) := HZV92.out.cell 1 rfl
    have r2_V92 : V92.cell? ⟨w.heap.size, 2, none⟩ = some (.string (⟨#[]⟩)) := HZV92.out.cell 2 rfl
    have r3_V92 : V92.cell? ⟨w.heap.size, 3, none⟩ = some (.int .i64 (0)) := HZV92.out.cell 3 rfl
    have r4_V92 : V92.cell? ⟨w.heap.size, 4, none⟩ = some (.int .i64 (0)) := HZV92.out.cell 4 rfl
    have r5_V92 : V92.cell? ⟨w.heap.size, 5, none⟩ = some (.int .i64 (0)) := HZV92.out.cell 5 rfl
    have r6_V92 : V92.cell? ⟨w.heap.size, 6, none⟩ = some (.string (⟨#[]⟩)) := HZV92.out.cell 6 rfl
    have r7_V92 : V92.cell? ⟨w.heap.size, 7, none⟩ = some (.slice none 0 0) := HZV92.out.cell 7 rfl
    have r8_V92 : V92.cell? ⟨w.heap.size, 8, none⟩ = some (.slice none 0 0) := HZV92.out.cell 8 rfl
    have r9_V92 : V92.cell? ⟨w.heap.size, 9, none⟩ = some (.slice none 0 0) := HZV92.out.cell 9 rfl
    have r10_V92 : V92.cell? ⟨w.heap.size, 10, none⟩ = some (.complex .f64 0 0) := HZV92.out.cell 10 rfl
    have xf_V92 : ∀ j, V92.frozen? ⟨B8, j, none⟩ = false := HXV92.out.fz
    have rf_V92 : ∀ j, V92.frozen? ⟨w.heap.size, j, none⟩ = false := HZV92.out.fz
    have xl_V92 : B8 < V92.heap.size := HXV92.out.lt
    have rl_V92 : w.heap.size < V92.heap.size := HZV92.out.lt
    go_wp2_with fail
    obtain ⟨hO1, hO2⟩ := HPO88.out
    subst hO1 hO2
    refine reds_end (⟨5, v86, v91, 0, 0, 0, ⟨#[]⟩, none, 0, 0, none, 0, 0, none, 0, 0, X, Y⟩ : Sv) rfl HZV92.out HBV92.out hRw HGW.out ?hsome (fun _ => ⟨(a + 1), HA2.out, ?_⟩)
    case hsome => exact fun x hx => by cases hx
    rw [show ts.length - (left ts (a + 1)).length = (a + 1) by rw [left_len]; have := HA2.out; omega]
    exact HQV92.out
end Go.Proofs.Ytnfkjmafhaecgaa
