/- Si -/
import Derived.Test.YtnfkjmafhaecgaaYSa

namespace Go.Proofs.Ytnfkjmafhaecgaa
open Go.RowKit
attribute [local go_sem] run_store_complex
set_option maxRecDepth 100000 in
set_option maxHeartbeats 8000000 in
theorem rstmt_if (deep : Int) (hd0 : 0 ≤ deep) (hd8 : deep ≤ 8) (blk : Pp.Pl → Pp.R (List St)) (HB : QB (deep + 1) blk) {R g cap : Nat} {s : ByteArray} {ts : List Lx.Tk} {a bad : Nat} {w : World} (h : Rq w R g cap ts a false bad) (hal : Pp.Alive (left ts a)) (hok : TkOk s ts) (o : Option St) (m : List Lx.Core) (htx : (Px.hd (left ts a)).2.1 = [105, 102]) (hp : Pp.stmt (plOf s ts) (blk (plOf s ts)) (left ts a) = (o, m)) :
    Calls Try.prog 62 #[.pointer (some ⟨R, 0, none⟩), .string s, .int .i64 deep] w fun e w' => RedS R g cap ts bad w o m e w' := by
  have ha := alive_lt hal
  have HR : Hid (Rq w R g cap ts a false bad) := h
  have hRw := h.rlt
  have hgw := h.lt
  have c0 := h.c0
  have c1 := h.c1
  have z1 := h.z 1
  have hf := h.few
  have hwr : IntKind.i64.wrap ((a : Int) + 1) = (a : Int) + 1 := by rw [IntKind.wrap_i64]; omega
  have hhd := hd_in ts a ha
  rw [hhd] at htx
  replace htx : Hid (ts[a].text = [105, 102]) := htx
  have hmem := List.getElem_mem ha
  have hw1 : ts[a].kind = 1 → Lx.isWord ts[a].text = true := hok.fit _ hmem
  have hkd : Hid (ts[a].kind = kindOf ts[a].text) := hok.kd _ hmem
  have HPL : Hid (∀ W, Calls Try.prog 50 #[.string s, .int .i64 (ts[a].at' : Int)] W fun e w' => e = .returned (.complex .f64 (lineW s ts[a].at') (colW s ts[a].at')) ∧ w' = W) := fun W => place_in s _ hok.sz (hok.at' _ hmem) W
  have hpl : plOf s ts (left ts a).length = (lineW s ts[a].at', colW s ts[a].at') := plOf_at s ts a ha
  obtain ⟨t0, t1, t2, t3⟩ := h.tok a ha
  have hai : (a : Int) < (ts.length : Int) := by omega
  have HA : Hid (a < ts.length) := ha
  have HAL : Hid (Pp.Alive (left ts a)) := hal
  have HOK : Hid (TkOk s ts) := hok
  have HHD : Hid _ := hhd
  have HPP : Hid _ := hpl
  unfold Pp.stmt at hp
  rw [hpl, hhd] at hp
  generalize lineW s ts[a].at' = X at *
  generalize colW s ts[a].at' = Y at *
  generalize ts[a].kind = kd at *
  generalize ts[a].text = tx at *
  generalize ts[a].n = nn at *
  generalize ts[a].at' = aa at *
  obtain ⟨N, hN⟩ : ∃ N, ts.length = N := ⟨_, rfl⟩
  have HN : Hid (ts.length = N) := hN
  rw [hN] at c0 hf hai
  clear h hal hok ha hN hmem hpl
  go_enter Try.func62, Try.ntmps62
  go_wp2_with fail
  go_region
  obtain ⟨W1, hW1⟩ : ∃ W1, ((sz w).alloc (.cells #[.int .i64 (kd : Int), .string (Px.ba tx), .int .i64 (nn : Int), .int .i64 (aa : Int)] 99)).drew = W1 := ⟨_, rfl⟩
  have hkw : Kept w (sz w) := (Kept.refl _).al _
  have hk1 : Kept (sz w) W1 := by rw [← hW1]; exact ((Kept.refl _).al _).dr
  have KW1 : Hid (Kept w W1) := hkw.then hk1
  have hbz : BoxS W1 w.heap.size (sv0 0 0).cells := (box_of (heap_alloc_new w _)).kept hk1
  have hbt : BoxS W1 (w.heap.size + 1) [.int .i64 (kd : Int), .string (Px.ba tx), .int .i64 (nn : Int), .int .i64 (aa : Int)] := by
    have h1 : BoxS ((sz w).alloc (.cells #[.int .i64 (kd : Int), .string (Px.ba tx), .int .i64 (nn : Int), .int .i64 (aa : Int)] 99)) (sz w).heap.size [.int .i64 (kd : Int), .string (Px.ba tx), .int .i64 (nn : Int), .int .i64 (aa : Int)] := box_of (heap_alloc_new (sz w) _)
    rw [show (sz w).heap.size = w.heap.size + 1 by simp] at h1
    rw [← hW1]
    exact h1.kept (Kept.refl _).dr
  have u3 : W1.cell? ⟨w.heap.size + 1, 3, none⟩ = some (.int .i64 (aa : Int)) := hbt.cell 3 rfl
  have hlt1 : w.heap.size + 1 < W1.heap.size := hbt.lt
  rw [hW1]
  clear hW1 hk1 hkw c0 t0 t1 t2 t3
  go_wp2_with fail
  refine (HPL.out _).mono ?_
  rintro e W1 ⟨rfl, rfl⟩
  obtain ⟨B8, hB8⟩ : ∃ B, W1.heap.size = B := ⟨_, rfl⟩
  obtain ⟨W2, hW2⟩ : ∃ W, W1.alloc (.cells #[.int .i64 0, .string ⟨#[]⟩, .string ⟨#[]⟩, .int .i64 0, .int .i64 0, .int .i64 0, .string ⟨#[]⟩, .slice none 0 0, .slice none 0 0, .slice none 0 0, .complex .f64 X Y] 46) = W := ⟨_, rfl⟩
  have hk2 : Kept W1 W2 := by rw [← hW2]; exact (Kept.refl _).al _
  have KW2 : Hid (Kept w W2) := KW1.out.then hk2
  have HQ2 : Hid (Rq W2 R g cap ts a false bad) := HR.out.kept KW2.out
  have hx : BoxS W2 B8 (⟨0, ⟨#[]⟩, ⟨#[]⟩, 0, 0, 0, ⟨#[]⟩, none, 0, 0, none, 0, 0, none, 0, 0, X, Y⟩ : Sv).cells := by rw [← hW2, ← hB8]; exact box_of (heap_alloc_new W1 _)
  have HXW2 : Hid (BoxS W2 B8 (⟨0, ⟨#[]⟩, ⟨#[]⟩, 0, 0, 0, ⟨#[]⟩, none, 0, 0, none, 0, 0, none, 0, 0, X, Y⟩ : Sv).cells) := hx
  have hzz : BoxS W2 w.heap.size (sv0 0 0).cells := hbz.kept hk2
  have HZW2 : Hid (BoxS W2 w.heap.size (sv0 0 0).cells) := hzz
  have x0 : W2.cell? ⟨B8, 0, none⟩ = some (.int .i64 (0)) := hx.cell 0 rfl
  have x1 : W2.cell? ⟨B8, 1, none⟩ = some (.string (⟨#[]⟩)) := hx.cell 1 rfl
  have x2 : W2.cell? ⟨B8, 2, none⟩ = some (.string (⟨#[]⟩)) := hx.cell 2 rfl
  have x3 : W2.cell? ⟨B8, 3, none⟩ = some (.int .i64 (0)) := hx.cell 3 rfl
  have x4 : W2.cell? ⟨B8, 4, none⟩ = some (.int .i64 (0)) := hx.cell 4 rfl
  have x5 : W2.cell? ⟨B8, 5, none⟩ = some (.int .i64 (0)) := hx.cell 5 rfl
  have x6 : W2.cell? ⟨B8, 6, none⟩ = some (.string (⟨#[]⟩)) := hx.cell 6 rfl
  have x7 : W2.cell? ⟨B8, 7, none⟩ = some (.slice none 0 0) := hx.cell 7 rfl
  have x8 : W2.cell? ⟨B8, 8, none⟩ = some (.slice none 0 0) := hx.cell 8 rfl
  have x9 : W2.cell? ⟨B8, 9, none⟩ = some (.slice none 0 0) := hx.cell 9 rfl
  have x10 : W2.cell? ⟨B8, 10, none⟩ = some (.complex .f64 X Y) := hx.cell 10 rfl
  have r0 : W2.cell? ⟨w.heap.size, 0, none⟩ = some (.int .i64 (0)) := hzz.cell 0 rfl
  have r1 : W2.cell? ⟨w.heap.size, 1, none⟩ = some (.string (⟨#[]⟩)) := hzz.cell 1 rfl
  have r2 : W2.cell? ⟨w.heap.size, 2, none⟩ = some (.string (⟨#[]⟩)) := hzz.cell 2 rfl
  have r3 : W2.cell? ⟨w.heap.size, 3, none⟩ = some (.int .i64 (0)) := hzz.cell 3 rfl
  have r4 : W2.cell? ⟨w.heap.size, 4, none⟩ = some (.int .i64 (0)) := hzz.cell 4 rfl
  have r5 : W2.cell? ⟨w.heap.size, 5, none⟩ = some (.int .i64 (0)) := hzz.cell 5 rfl
  have r6 : W2.cell? ⟨w.heap.size, 6, none⟩ = some (.string (⟨#[]⟩)) := hzz.cell 6 rfl
  have r7 : W2.cell? ⟨w.heap.size, 7, none⟩ = some (.slice none 0 0) := hzz.cell 7 rfl
  have r8 : W2.cell? ⟨w.heap.size, 8, none⟩ = some (.slice none 0 0) := hzz.cell 8 rfl
  have r9 : W2.cell? ⟨w.heap.size, 9, none⟩ = some (.slice none 0 0) := hzz.cell 9 rfl
  have r10 : W2.cell? ⟨w.heap.size, 10, none⟩ = some (.complex .f64 0 0) := hzz.cell 10 rfl
  have xf : ∀ j, W2.frozen? ⟨B8, j, none⟩ = false := hx.fz
  have rf : ∀ j, W2.frozen? ⟨w.heap.size, j, none⟩ = false := hzz.fz
  have xl : B8 < W2.heap.size := hx.lt
  have rl : w.heap.size < W2.heap.size := hzz.lt
  clear hx hzz
  have htk : BoxS W2 (w.heap.size + 1) [.int .i64 (kd : Int), .string (Px.ba tx), .int .i64 (nn : Int), .int .i64 (aa : Int)] := hbt.kept hk2
  have HTW2 : Hid (BoxS W2 (w.heap.size + 1) [.int .i64 (kd : Int), .string (Px.ba tx), .int .i64 (nn : Int), .int .i64 (aa : Int)]) := htk
  have u0 : W2.cell? ⟨w.heap.size + 1, 0, none⟩ = some (.int .i64 (kd : Int)) := htk.cell 0 rfl
  have u1 : W2.cell? ⟨w.heap.size + 1, 1, none⟩ = some (.string (Px.ba tx)) := htk.cell 1 rfl
  clear htk
  have hR2 := HQ2.out.rlt
  replace c1 := HQ2.out.c1
  replace z1 := HQ2.out.z 1
  have hBR : B8 ≠ R := by omega
  have hBg : B8 ≠ g := by omega
  have hBw : w.heap.size + 1 < B8 := by omega
  have hrR : w.heap.size ≠ R := by omega
  have htR : w.heap.size + 1 ≠ R := by omega
  have hrB : w.heap.size ≠ B8 := by omega
  have htB : w.heap.size + 1 ≠ B8 := by omega
  have HGW : Hid (g < w.heap.size) := hgw
  have LF : Hid (ts.length - (left ts a).length = a) := by show _ = _; rw [left_len]; have := HA.out; omega
  clear hbz hbt u3 hk2 hgw hlt1
  have h1 : kd = 1 := by rw [hkd.out, htx.out]; decide
  have hal2 : Pp.Alive (left ts (a + 1)) := by
    have := HAL.out.tail (.inl (by rw [hhd, h1]; show (1 : Nat) ≠ 4; decide))
    rwa [left_tail] at this
  have HAL2 : Hid (Pp.Alive (left ts (a + 1))) := hal2
  have HA2 : Hid (a + 1 < ts.length) := alive_lt hal2
  obtain ⟨W3, hW3⟩ : ∃ W, W2.setCell ⟨R, 1, none⟩ (.int .i64 ((a : Int) + 1)) = W := ⟨_, rfl⟩
  have hq3 := HQ2.out.at' (a + 1) (Nat.le_of_lt HA2.out)
  rw [show ((a + 1 : Nat) : Int) = (a : Int) + 1 by omega, hW3] at hq3
  have HQW3 : Hid (Rq W3 R g cap ts (a + 1) false bad) := hq3
  have hb23 : But R W2 W3 := by rw [← hW3]; exact (But.refl _ _).set _ _
  have HBW3 : Hid (But R w W3) := (But.of KW2.out).then hb23
  have HXW3 : Hid (BoxS W3 B8 (⟨0, ⟨#[]⟩, ⟨#[]⟩, 0, 0, 0, ⟨#[]⟩, none, 0, 0, none, 0, 0, none, 0, 0, X, Y⟩ : Sv).cells) := HXW2.out.but hb23 hBR
  have HZW3 : Hid (BoxS W3 w.heap.size (sv0 0 0).cells) := HZW2.out.but hb23 hrR
  have HTW3 : Hid (BoxS W3 (w.heap.size + 1) [.int .i64 (kd : Int), .string (Px.ba tx), .int .i64 (nn : Int), .int .i64 (aa : Int)]) := HTW2.out.but hb23 htR
  subst h1
  clear hq3 hb23 hal2 hw1 x0 x1 x2 x3 x4 x5 x6 x7 x8 x9 x10 r0 r1 r2 r3 r4 r5 r6 r7 r8 r9 r10 xf rf xl rl
  have htx1 := htx.out
  subst htx1
  clear htx
  have hP : Pp.bind Px.read (fun e => Pp.bind (blk (plOf s ts)) fun b => Pp.bind (Pp.other (blk (plOf s ts))) fun c => Pp.ret (St.mk 7 Px.e0 Px.e0 0 e b c X Y)) (left ts (a + 1)) = (o, m) := by
    have : Pp.behind (blk (plOf s ts)) 7 (X, Y) (left ts a).tail = (o, m) := hp
    rw [left_tail] at this
    exact this
  have HPO0 : Hid _ := hP
  have hRB : R < B8 := by omega
  clear hp hP hhd hkd
  have e0 : ((Px.ba [105, 102]).toList == [108, 111, 99, 107]) = false := by rw [show (Px.ba [105, 102]).toList = [105, 102] by rw [toList_data]; rfl]; decide
  have e1 : ((Px.ba [105, 102]).toList == [117, 110, 108, 111, 99, 107]) = false := by rw [show (Px.ba [105, 102]).toList = [105, 102] by rw [toList_data]; rfl]; decide
  have e2 : ((Px.ba [105, 102]).toList == [103, 111, 116, 111]) = false := by rw [show (Px.ba [105, 102]).toList = [105, 102] by rw [toList_data]; rfl]; decide
  have e3 : ((Px.ba [105, 102]).toList == [108, 97, 98, 101, 108]) = false := by rw [show (Px.ba [105, 102]).toList = [105, 102] by rw [toList_data]; rfl]; decide
  have e4 : ((Px.ba [105, 102]).toList == [115, 101, 110, 100]) = false := by rw [show (Px.ba [105, 102]).toList = [105, 102] by rw [toList_data]; rfl]; decide
  have e5 : ((Px.ba [105, 102]).toList == [114, 101, 99, 118]) = false := by rw [show (Px.ba [105, 102]).toList = [105, 102] by rw [toList_data]; rfl]; decide
  have e6 : ((Px.ba [105, 102]).toList == [112, 114, 105, 110, 116]) = false := by rw [show (Px.ba [105, 102]).toList = [105, 102] by rw [toList_data]; rfl]; decide
  have e7 : ((Px.ba [105, 102]).toList == [105, 102]) = true := by rw [show (Px.ba [105, 102]).toList = [105, 102] by rw [toList_data]; rfl]; decide
  have e8 : ((Px.ba [105, 102]).toList == [114, 101, 112, 101, 97, 116]) = false := by rw [show (Px.ba [105, 102]).toList = [105, 102] by rw [toList_data]; rfl]; decide
  generalize Px.ba [105, 102] = TX at *
  replace u1 : W3.cell? ⟨w.heap.size + 1, 1, none⟩ = some (.string TX) := HTW3.out.cell 1 rfl
  have hwd : IntKind.i64.wrap (deep + 1) = deep + 1 := by rw [IntKind.wrap_i64]; omega
  have HBB : Hid (QB (deep + 1) blk) := HB
  clear HB
  have x0_W3 : W3.cell? ⟨B8, 0, none⟩ = some (.int .i64 (0)) := HXW3.out.cell 0 rfl
  have x1_W3 : W3.cell? ⟨B8, 1, none⟩ = some (.string (⟨#[]⟩)) := HXW3.out.cell 1 rfl
  have x2_W3 : W3.cell? ⟨B8, 2, none⟩ = some (.string (⟨#[]⟩)) := HXW3.out.cell 2 rfl
  have x3_W3 : W3.cell? ⟨B8, 3, none⟩ = some (.int .i64 (0)) := HXW3.out.cell 3 rfl
  have x4_W3 : W3.cell? ⟨B8, 4, none⟩ = some (.int .i64 (0)) := HXW3.out.cell 4 rfl
  have x5_W3 : W3.cell? ⟨B8, 5, none⟩ = some (.int .i64 (0)) := HXW3.out.cell 5 rfl
  have x6_W3 : W3.cell? ⟨B8, 6, none⟩ = some (.string (⟨#[]⟩)) := HXW3.out.cell 6 rfl
  have x7_W3 : W3.cell? ⟨B8, 7, none⟩ = some (.slice none 0 0) := HXW3.out.cell 7 rfl
  have x8_W3 : W3.cell? ⟨B8, 8, none⟩ = some (.slice none 0 0) := HXW3.out.cell 8 rfl
  have x9_W3 : W3.cell? ⟨B8, 9, none⟩ = some (.slice none 0 0) := HXW3.out.cell 9 rfl
  have x10_W3 : W3.cell? ⟨B8, 10, none⟩ = some (.complex .f64 X Y) := HXW3.out.cell 10 rfl
  have r0_W3 : W3.cell? ⟨w.heap.size, 0, none⟩ = some (.int .i64 (0)) := HZW3.out.cell 0 rfl
  have r1_W3 : W3.cell? ⟨w.heap.size, 1, none⟩ = some (.string (⟨#[]⟩)) := HZW3.out.cell 1 rfl
  have r2_W3 : W3.cell? ⟨w.heap.size, 2, none⟩ = some (.string (⟨#[]⟩)) := HZW3.out.cell 2 rfl
  have r3_W3 : W3.cell? ⟨w.heap.size, 3, none⟩ = some (.int .i64 (0)) := HZW3.out.cell 3 rfl
  have r4_W3 : W3.cell? ⟨w.heap.size, 4, none⟩ = some (.int .i64 (0)) := HZW3.out.cell 4 rfl
  have r5_W3 : W3.cell? ⟨w.heap.size, 5, none⟩ = some (.int .i64 (0)) := HZW3.out.cell 5 rfl
  have r6_W3 : W3.cell? ⟨w.heap.size, 6, none⟩ = some (.string (⟨#[]⟩)) := HZW3.out.cell 6 rfl
  have r7_W3 : W3.cell? ⟨w.heap.size, 7, none⟩ = some (.slice none 0 0) := HZW3.out.cell 7 rfl
  have r8_W3 : W3.cell? ⟨w.heap.size, 8, none⟩ = some (.slice none 0 0) := HZW3.out.cell 8 rfl
  have r9_W3 : W3.cell? ⟨w.heap.size, 9, none⟩ = some (.slice none 0 0) := HZW3.out.cell 9 rfl
  have r10_W3 : W3.cell? ⟨w.heap.size, 10, none⟩ = some (.complex .f64 0 0) := HZW3.out.cell 10 rfl
  have xf_W3 : ∀ j, W3.frozen? ⟨B8, j, none⟩ = false := HXW3.out.fz
  have rf_W3 : ∀ j, W3.frozen? ⟨w.heap.size, j, none⟩ = false := HZW3.out.fz
  have xl_W3 : B8 < W3.heap.size := HXW3.out.lt
  have rl_W3 : w.heap.size < W3.heap.size := HZW3.out.lt
  obtain ⟨V130, hV130⟩ : ∃ W, (W3).setCell ⟨B8, 0, none⟩ (.int .i64 7) = W := ⟨_, rfl⟩
  have HXV130 : Hid (BoxS V130 B8 (⟨7, ⟨#[]⟩, ⟨#[]⟩, 0, 0, 0, ⟨#[]⟩, none, 0, 0, none, 0, 0, none, 0, 0, X, Y⟩ : Sv).cells) := by rw [← hV130]; exact ((HXW3.out).setv 0 [.int .i64 7] (⟨7, ⟨#[]⟩, ⟨#[]⟩, 0, 0, 0, ⟨#[]⟩, none, 0, 0, none, 0, 0, none, 0, 0, X, Y⟩ : Sv).cells (by show 0 + 1 ≤ 11; decide) rfl)
  have HZV130 : Hid (BoxS V130 w.heap.size (sv0 0 0).cells) := by rw [← hV130]; exact ((HZW3.out).apart hrB 0 [.int .i64 7])
  have HBV130 : Hid (But R w V130) := by rw [← hV130]; exact ((HBW3.out).sets (B := B8) (by omega) 0 [.int .i64 7])
  have HTV130 : Hid (BoxS V130 (w.heap.size + 1) [.int .i64 ((1 : Nat) : Int), .string TX, .int .i64 (nn : Int), .int .i64 (aa : Int)]) := by rw [← hV130]; exact ((HTW3.out).apart htB 0 [.int .i64 7])
  have uV130 : V130.cell? ⟨w.heap.size + 1, 1, none⟩ = some (.string TX) := HTV130.out.cell 1 rfl
  have HQV130 : Hid (Rq V130 R g cap ts (a + 1) false bad) := by rw [← hV130]; exact ((HQW3.out).sets hBR hBg 0 [.int .i64 7])
  obtain ⟨o131, m132, hp133⟩ : ∃ o1 m1, Px.read (left ts (a + 1)) = (o1, m1) := ⟨_, _, rfl⟩
  have HP142 : Hid (Px.read (left ts (a + 1)) = (o131, m132)) := hp133
  have NM : Hid _ := rwhole_any HQV130.out HAL2.out HOK.out.fit s o131 m132 hp133
  have HSF143 : Hid (left ts (ts.length - m132.length) = m132 ∧ Pp.Alive m132) := by
    have h1 := Pp.read_keeps (left ts (a + 1)) HAL2.out
    rw [hp133] at h1
    exact ⟨suf_left h1.1, h1.2⟩
  clear hp133
  go_wp2_with fail
  refine Calls.mono NM.out ?_
  rintro e w134 ⟨k135, n136, sx137, ax138, lx139, qx140, rfl, H141⟩
  have hbn := H141.out.1
  clear NM
  cases o131 with
  | none =>
    obtain ⟨fa203, hfa, hq⟩ := H141.out.2.2 rfl
    have HFA204 : Hid (fa203 < ts.length) := hfa
    have HXw134 : Hid (BoxS w134 B8 (⟨7, ⟨#[]⟩, ⟨#[]⟩, 0, 0, 0, ⟨#[]⟩, none, 0, 0, none, 0, 0, none, 0, 0, X, Y⟩ : Sv).cells) := HXV130.out.but hbn hBR
    have HZw134 : Hid (BoxS w134 w.heap.size (sv0 0 0).cells) := HZV130.out.but hbn hrR
    have HBw134 : Hid (But R w w134) := HBV130.out.then hbn
    have HTw134 : Hid (BoxS w134 (w.heap.size + 1) [.int .i64 ((1 : Nat) : Int), .string TX, .int .i64 (nn : Int), .int .i64 (aa : Int)]) := HTV130.out.but hbn htR
    have HQw134 : Hid (Rq w134 R g cap ts fa203 true (ts.length - m132.length)) := hq
    clear hbn
    have hP := HPO0.out
    rw [Pp.bind_none HP142.out] at hP
    simp only [Prod.mk.injEq] at hP
    have HPO205 : Hid (o = none ∧ m = m132) := ⟨hP.1.symm, hP.2.symm⟩
    clear hfa hq hP
    clear x0_W3 x1_W3 x2_W3 x3_W3 x4_W3 x5_W3 x6_W3 x7_W3 x8_W3 x9_W3 x10_W3 r0_W3 r1_W3 r2_W3 r3_W3 r4_W3 r5_W3 r6_W3 r7_W3 r8_W3 r9_W3 r10_W3 xf_W3 rf_W3 xl_W3 rl_W3
    have x0_w134 : w134.cell? ⟨B8, 0, none⟩ = some (.int .i64 (7)) := HXw134.out.cell 0 rfl
    have x1_w134 : w134.cell? ⟨B8, 1, none⟩ = some (.string (⟨#[]⟩)) := HXw134.out.cell 1 rfl
    have x2_w134 : w134.cell? ⟨B8, 2, none⟩ = some (.string (⟨#[]⟩)) := HXw134.out.cell 2 rfl
    have x3_w134 : w134.cell? ⟨B8, 3, none⟩ = some (.int .i64 (0)) := HXw134.out.cell 3 rfl
    have x4_w134 : w134.cell? ⟨B8, 4, none⟩ = some (.int .i64 (0)) := HXw134.out.cell 4 rfl
    have x5_w134 : w134.cell? ⟨B8, 5, none⟩ = some (.int .i64 (0)) := HXw134.out.cell 5 rfl
    have x6_w134 : w134.cell? ⟨B8, 6, none⟩ = some (.string (⟨#[]⟩)) := HXw134.out.cell 6 rfl
    have x7_w134 : w134.cell? ⟨B8, 7, none⟩ = some (.slice none 0 0) := HXw134.out.cell 7 rfl
    have x8_w134 : w134.cell? ⟨B8, 8, none⟩ = some (.slice none 0 0) := HXw134.out.cell 8 rfl
    have x9_w134 : w134.cell? ⟨B8, 9, none⟩ = some (.slice none 0 0) := HXw134.out.cell 9 rfl
    have x10_w134 : w134.cell? ⟨B8, 10, none⟩ = some (.complex .f64 X Y) := HXw134.out.cell 10 rfl
    have r0_w134 : w134.cell? ⟨w.heap.size, 0, none⟩ = some (.int .i64 (0)) := HZw134.out.cell 0 rfl
    have r1_w134 : w134.cell? ⟨w.heap.size, 1, none⟩ = some (.string (⟨#[]⟩)) := HZw134.out.cell 1 rfl
    have r2_w134 : w134.cell? ⟨w.heap.size, 2, none⟩ = some (.string (⟨#[]⟩)) := HZw134.out.cell 2 rfl
    have r3_w134 : w134.cell? ⟨w.heap.size, 3, none⟩ = some (.int .i64 (0)) := HZw134.out.cell 3 rfl
    have r4_w134 : w134.cell? ⟨w.heap.size, 4, none⟩ = some (.int .i64 (0)) := HZw134.out.cell 4 rfl
    have r5_w134 : w134.cell? ⟨w.heap.size, 5, none⟩ = some (.int .i64 (0)) := HZw134.out.cell 5 rfl
    have r6_w134 : w134.cell? ⟨w.heap.size, 6, none⟩ = some (.string (⟨#[]⟩)) := HZw134.out.cell 6 rfl
    have r7_w134 : w134.cell? ⟨w.heap.size, 7, none⟩ = some (.slice none 0 0) := HZw134.out.cell 7 rfl
    have r8_w134 : w134.cell? ⟨w.heap.size, 8, none⟩ = some (.slice none 0 0) := HZw134.out.cell 8 rfl
    have r9_w134 : w134.cell? ⟨w.heap.size, 9, none⟩ = some (.slice none 0 0) := HZw134.out.cell 9 rfl
    have r10_w134 : w134.cell? ⟨w.heap.size, 10, none⟩ = some (.complex .f64 0 0) := HZw134.out.cell 10 rfl
    have xf_w134 : ∀ j, w134.frozen? ⟨B8, j, none⟩ = false := HXw134.out.fz
    have rf_w134 : ∀ j, w134.frozen? ⟨w.heap.size, j, none⟩ = false := HZw134.out.fz
    have xl_w134 : B8 < w134.heap.size := HXw134.out.lt
    have rl_w134 : w.heap.size < w134.heap.size := HZw134.out.lt
    obtain ⟨V206, hV206⟩ : ∃ W, ((((w134).setCell ⟨B8, 4, none⟩ (.int .i64 k135)).setCell ⟨B8, 5, none⟩ (.int .i64 n136)).setCell ⟨B8, 6, none⟩ (.string sx137)).setCell ⟨B8, 7, none⟩ (.slice ax138 lx139 qx140) = W := ⟨_, rfl⟩
    have HXV206 : Hid (BoxS V206 B8 (⟨7, ⟨#[]⟩, ⟨#[]⟩, 0, k135, n136, sx137, ax138, lx139, qx140, none, 0, 0, none, 0, 0, X, Y⟩ : Sv).cells) := by rw [← hV206]; exact ((HXw134.out).setv 4 [.int .i64 k135, .int .i64 n136, .string sx137, .slice ax138 lx139 qx140] (⟨7, ⟨#[]⟩, ⟨#[]⟩, 0, k135, n136, sx137, ax138, lx139, qx140, none, 0, 0, none, 0, 0, X, Y⟩ : Sv).cells (by show 4 + 4 ≤ 11; decide) rfl)
    have HZV206 : Hid (BoxS V206 w.heap.size (sv0 0 0).cells) := by rw [← hV206]; exact ((HZw134.out).apart hrB 4 [.int .i64 k135, .int .i64 n136, .string sx137, .slice ax138 lx139 qx140])
    have HBV206 : Hid (But R w V206) := by rw [← hV206]; exact ((HBw134.out).sets (B := B8) (by omega) 4 [.int .i64 k135, .int .i64 n136, .string sx137, .slice ax138 lx139 qx140])
    have HTV206 : Hid (BoxS V206 (w.heap.size + 1) [.int .i64 ((1 : Nat) : Int), .string TX, .int .i64 (nn : Int), .int .i64 (aa : Int)]) := by rw [← hV206]; exact ((HTw134.out).apart htB 4 [.int .i64 k135, .int .i64 n136, .string sx137, .slice ax138 lx139 qx140])
    have uV206 : V206.cell? ⟨w.heap.size + 1, 1, none⟩ = some (.string TX) := HTV206.out.cell 1 rfl
    have HQV206 : Hid (Rq V206 R g cap ts fa203 true (ts.length - m132.length)) := by rw [← hV206]; exact ((HQw134.out).sets hBR hBg 4 [.int .i64 k135, .int .i64 n136, .string sx137, .slice ax138 lx139 qx140])
    have NM : Hid _ := HBB.out.no R g cap s ts fa203 (ts.length - m132.length) V206 HQV206.out HFA204.out
    go_wp2_with fail
    refine Calls.mono NM.out ?_
    rintro e w207 ⟨rfl, H208⟩
    have hbn := H208.out.1
    clear NM
    have HXw207 : Hid (BoxS w207 B8 (⟨7, ⟨#[]⟩, ⟨#[]⟩, 0, k135, n136, sx137, ax138, lx139, qx140, none, 0, 0, none, 0, 0, X, Y⟩ : Sv).cells) := HXV206.out.but hbn hBR
    have HZw207 : Hid (BoxS w207 w.heap.size (sv0 0 0).cells) := HZV206.out.but hbn hrR
    have HBw207 : Hid (But R w w207) := HBV206.out.then hbn
    have HTw207 : Hid (BoxS w207 (w.heap.size + 1) [.int .i64 ((1 : Nat) : Int), .string TX, .int .i64 (nn : Int), .int .i64 (aa : Int)]) := HTV206.out.but hbn htR
    have HQw207 : Hid (Rq w207 R g cap ts fa203 true (ts.length - m132.length)) := H208.out.2
    clear hbn
    clear x0_w134 x1_w134 x2_w134 x3_w134 x4_w134 x5_w134 x6_w134 x7_w134 x8_w134 x9_w134 x10_w134 r0_w134 r1_w134 r2_w134 r3_w134 r4_w134 r5_w134 r6_w134 r7_w134 r8_w134 r9_w134 r10_w134 xf_w134 rf_w134 xl_w134 rl_w134
    have x0_w207 : w207.cell? ⟨B8, 0, none⟩ = some (.int .i64 (7)) := HXw207.out.cell 0 rfl
    have x1_w207 : w207.cell? ⟨B8, 1, none⟩ = some (.string (⟨#[]⟩)) := HXw207.out.cell 1 rfl
    have x2_w207 : w207.cell? ⟨B8, 2, none⟩ = some (.string (⟨#[]⟩)) := HXw207.out.cell 2 rfl
    have x3_w207 : w207.cell? ⟨B8, 3, none⟩ = some (.int .i64 (0)) := HXw207.out.cell 3 rfl
    have x4_w207 : w207.cell? ⟨B8, 4, none⟩ = some (.int .i64 (k135)) := HXw207.out.cell 4 rfl
    have x5_w207 : w207.cell? ⟨B8, 5, none⟩ = some (.int .i64 (n136)) := HXw207.out.cell 5 rfl
    have x6_w207 : w207.cell? ⟨B8, 6, none⟩ = some (.string (sx137)) := HXw207.out.cell 6 rfl
    have x7_w207 : w207.cell? ⟨B8, 7, none⟩ = some (.slice ax138 lx139 qx140) := HXw207.out.cell 7 rfl
    have x8_w207 : w207.cell? ⟨B8, 8, none⟩ = some (.slice none 0 0) := HXw207.out.cell 8 rfl
    have x9_w207 : w207.cell? ⟨B8, 9, none⟩ = some (.slice none 0 0) := HXw207.out.cell 9 rfl
    have x10_w207 : w207.cell? ⟨B8, 10, none⟩ = some (.complex .f64 X Y) := HXw207.out.cell 10 rfl
    have r0_w207 : w207.cell? ⟨w.heap.size, 0, none⟩ = some (.int .i64 (0)) := HZw207.out.cell 0 rfl
    have r1_w207 : w207.cell? ⟨w.heap.size, 1, none⟩ = some (.string (⟨#[]⟩)) := HZw207.out.cell 1 rfl
    have r2_w207 : w207.cell? ⟨w.heap.size, 2, none⟩ = some (.string (⟨#[]⟩)) := HZw207.out.cell 2 rfl
    have r3_w207 : w207.cell? ⟨w.heap.size, 3, none⟩ = some (.int .i64 (0)) := HZw207.out.cell 3 rfl
    have r4_w207 : w207.cell? ⟨w.heap.size, 4, none⟩ = some (.int .i64 (0)) := HZw207.out.cell 4 rfl
    have r5_w207 : w207.cell? ⟨w.heap.size, 5, none⟩ = some (.int .i64 (0)) := HZw207.out.cell 5 rfl
    have r6_w207 : w207.cell? ⟨w.heap.size, 6, none⟩ = some (.string (⟨#[]⟩)) := HZw207.out.cell 6 rfl
    have r7_w207 : w207.cell? ⟨w.heap.size, 7, none⟩ = some (.slice none 0 0) := HZw207.out.cell 7 rfl
    have r8_w207 : w207.cell? ⟨w.heap.size, 8, none⟩ = some (.slice none 0 0) := HZw207.out.cell 8 rfl
    have r9_w207 : w207.cell? ⟨w.heap.size, 9, none⟩ = some (.slice none 0 0) := HZw207.out.cell 9 rfl
    have r10_w207 : w207.cell? ⟨w.heap.size, 10, none⟩ = some (.complex .f64 0 0) := HZw207.out.cell 10 rfl
    have xf_w207 : ∀ j, w207.frozen? ⟨B8, j, none⟩ = false := HXw207.out.fz
    have rf_w207 : ∀ j, w207.frozen? ⟨w.heap.size, j, none⟩ = false := HZw207.out.fz
    have xl_w207 : B8 < w207.heap.size := HXw207.out.lt
    have rl_w207 : w.heap.size < w207.heap.size := HZw207.out.lt
    obtain ⟨V209, hV209⟩ : ∃ W, (w207).setCell ⟨B8, 8, none⟩ (.slice none 0 0) = W := ⟨_, rfl⟩
    have HXV209 : Hid (BoxS V209 B8 (⟨7, ⟨#[]⟩, ⟨#[]⟩, 0, k135, n136, sx137, ax138, lx139, qx140, none, 0, 0, none, 0, 0, X, Y⟩ : Sv).cells) := by rw [← hV209]; exact ((HXw207.out).setv 8 [.slice none 0 0] (⟨7, ⟨#[]⟩, ⟨#[]⟩, 0, k135, n136, sx137, ax138, lx139, qx140, none, 0, 0, none, 0, 0, X, Y⟩ : Sv).cells (by show 8 + 1 ≤ 11; decide) rfl)
    have HZV209 : Hid (BoxS V209 w.heap.size (sv0 0 0).cells) := by rw [← hV209]; exact ((HZw207.out).apart hrB 8 [.slice none 0 0])
    have HBV209 : Hid (But R w V209) := by rw [← hV209]; exact ((HBw207.out).sets (B := B8) (by omega) 8 [.slice none 0 0])
    have HTV209 : Hid (BoxS V209 (w.heap.size + 1) [.int .i64 ((1 : Nat) : Int), .string TX, .int .i64 (nn : Int), .int .i64 (aa : Int)]) := by rw [← hV209]; exact ((HTw207.out).apart htB 8 [.slice none 0 0])
    have uV209 : V209.cell? ⟨w.heap.size + 1, 1, none⟩ = some (.string TX) := HTV209.out.cell 1 rfl
    have HQV209 : Hid (Rq V209 R g cap ts fa203 true (ts.length - m132.length)) := by rw [← hV209]; exact ((HQw207.out).sets hBR hBg 8 [.slice none 0 0])
    have NM : Hid (Calls Try.prog 53 #[.pointer (some ⟨R, 0, none⟩), .string ⟨#[101, 108, 115, 101]⟩] V209 fun e w' => e = .returned (.bool false) ∧ Kept V209 w') := by
      have := rword_any HQV209.out HFA204.out ⟨#[101, 108, 115, 101]⟩
      exact this
    go_wp2_with fail
    refine Calls.mono NM.out ?_
    rintro e w210 ⟨rfl, kk⟩
    have hbn : But R V209 w210 := But.of kk
    clear NM
    have HXw210 : Hid (BoxS w210 B8 (⟨7, ⟨#[]⟩, ⟨#[]⟩, 0, k135, n136, sx137, ax138, lx139, qx140, none, 0, 0, none, 0, 0, X, Y⟩ : Sv).cells) := HXV209.out.but hbn hBR
    have HZw210 : Hid (BoxS w210 w.heap.size (sv0 0 0).cells) := HZV209.out.but hbn hrR
    have HBw210 : Hid (But R w w210) := HBV209.out.then hbn
    have HTw210 : Hid (BoxS w210 (w.heap.size + 1) [.int .i64 ((1 : Nat) : Int), .string TX, .int .i64 (nn : Int), .int .i64 (aa : Int)]) := HTV209.out.but hbn htR
    have HQw210 : Hid (Rq w210 R g cap ts fa203 true (ts.length - m132.length)) := HQV209.out.kept kk
    clear hbn
    clear kk
    clear x0_w207 x1_w207 x2_w207 x3_w207 x4_w207 x5_w207 x6_w207 x7_w207 x8_w207 x9_w207 x10_w207 r0_w207 r1_w207 r2_w207 r3_w207 r4_w207 r5_w207 r6_w207 r7_w207 r8_w207 r9_w207 r10_w207 xf_w207 rf_w207 xl_w207 rl_w207
    have x0_w210 : w210.cell? ⟨B8, 0, none⟩ = some (.int .i64 (7)) := HXw210.out.cell 0 rfl
    have x1_w210 : w210.cell? ⟨B8, 1, none⟩ = some (.string (⟨#[]⟩)) := HXw210.out.cell 1 rfl
    have x2_w210 : w210.cell? ⟨B8, 2, none⟩ = some (.string (⟨#[]⟩)) := HXw210.out.cell 2 rfl
    have x3_w210 : w210.cell? ⟨B8, 3, none⟩ = some (.int .i64 (0)) := HXw210.out.cell 3 rfl
    have x4_w210 : w210.cell? ⟨B8, 4, none⟩ = some (.int .i64 (k135)) := HXw210.out.cell 4 rfl
    have x5_w210 : w210.cell? ⟨B8, 5, none⟩ = some (.int .i64 (n136)) := HXw210.out.cell 5 rfl
    have x6_w210 : w210.cell? ⟨B8, 6, none⟩ = some (.string (sx137)) := HXw210.out.cell 6 rfl
    have x7_w210 : w210.cell? ⟨B8, 7, none⟩ = some (.slice ax138 lx139 qx140) := HXw210.out.cell 7 rfl
    have x8_w210 : w210.cell? ⟨B8, 8, none⟩ = some (.slice none 0 0) := HXw210.out.cell 8 rfl
    have x9_w210 : w210.cell? ⟨B8, 9, none⟩ = some (.slice none 0 0) := HXw210.out.cell 9 rfl
    have x10_w210 : w210.cell? ⟨B8, 10, none⟩ = some (.complex .f64 X Y) := HXw210.out.cell 10 rfl
    have r0_w210 : w210.cell? ⟨w.heap.size, 0, none⟩ = some (.int .i64 (0)) := HZw210.out.cell 0 rfl
    have r1_w210 : w210.cell? ⟨w.heap.size, 1, none⟩ = some (.string (⟨#[]⟩)) := HZw210.out.cell 1 rfl
    have r2_w210 : w210.cell? ⟨w.heap.size, 2, none⟩ = some (.string (⟨#[]⟩)) := HZw210.out.cell 2 rfl
    have r3_w210 : w210.cell? ⟨w.heap.size, 3, none⟩ = some (.int .i64 (0)) := HZw210.out.cell 3 rfl
    have r4_w210 : w210.cell? ⟨w.heap.size, 4, none⟩ = some (.int .i64 (0)) := HZw210.out.cell 4 rfl
    have r5_w210 : w210.cell? ⟨w.heap.size, 5, none⟩ = some (.int .i64 (0)) := HZw210.out.cell 5 rfl
    have r6_w210 : w210.cell? ⟨w.heap.size, 6, none⟩ = some (.string (⟨#[]⟩)) := HZw210.out.cell 6 rfl
    have r7_w210 : w210.cell? ⟨w.heap.size, 7, none⟩ = some (.slice none 0 0) := HZw210.out.cell 7 rfl
    have r8_w210 : w210.cell? ⟨w.heap.size, 8, none⟩ = some (.slice none 0 0) := HZw210.out.cell 8 rfl
    have r9_w210 : w210.cell? ⟨w.heap.size, 9, none⟩ = some (.slice none 0 0) := HZw210.out.cell 9 rfl
    have r10_w210 : w210.cell? ⟨w.heap.size, 10, none⟩ = some (.complex .f64 0 0) := HZw210.out.cell 10 rfl
    have xf_w210 : ∀ j, w210.frozen? ⟨B8, j, none⟩ = false := HXw210.out.fz
    have rf_w210 : ∀ j, w210.frozen? ⟨w.heap.size, j, none⟩ = false := HZw210.out.fz
    have xl_w210 : B8 < w210.heap.size := HXw210.out.lt
    have rl_w210 : w.heap.size < w210.heap.size := HZw210.out.lt
    have x0_w210 : w210.cell? ⟨B8, 0, none⟩ = some (.int .i64 (7)) := HXw210.out.cell 0 rfl
    have x1_w210 : w210.cell? ⟨B8, 1, none⟩ = some (.string (⟨#[]⟩)) := HXw210.out.cell 1 rfl
    have x2_w210 : w210.cell? ⟨B8, 2, none⟩ = some (.string (⟨#[]⟩)) := HXw210.out.cell 2 rfl
    have x3_w210 : w210.cell? ⟨B8, 3, none⟩ = some (.int .i64 (0)) := HXw210.out.cell 3 rfl
    have x4_w210 : w210.cell? ⟨B8, 4, none⟩ = some (.int .i64 (k135)) := HXw210.out.cell 4 rfl
    have x5_w210 : w210.cell? ⟨B8, 5, none⟩ = some (.int .i64 (n136)) := HXw210.out.cell 5 rfl
    have x6_w210 : w210.cell? ⟨B8, 6, none⟩ = some (.string (sx137)) := HXw210.out.cell 6 rfl
    have x7_w210 : w210.cell? ⟨B8, 7, none⟩ = some (.slice ax138 lx139 qx140) := HXw210.out.cell 7 rfl
    have x8_w210 : w210.cell? ⟨B8, 8, none⟩ = some (.slice none 0 0) := HXw210.out.cell 8 rfl
    have x9_w210 : w210.cell? ⟨B8, 9, none⟩ = some (.slice none 0 0) := HXw210.out.cell 9 rfl
    have x10_w210 : w210.cell? ⟨B8, 10, none⟩ = some (.complex .f64 X Y) := HXw210.out.cell 10 rfl
    have r0_w210 : w210.cell? ⟨w.heap.size, 0, none⟩ = some (.int .i64 (0)) := HZw210.out.cell 0 rfl
    have r1_w210 : w210.cell? ⟨w.heap.size, 1, none⟩ = some (.string (⟨#[]⟩)) := HZw210.out.cell 1 rfl
    have r2_w210 : w210.cell? ⟨w.heap.size, 2, none⟩ = some (.string (⟨#[]⟩)) := HZw210.out.cell 2 rfl
    have r3_w210 : w210.cell? ⟨w.heap.size, 3, none⟩ = some (.int .i64 (0)) := HZw210.out.cell 3 rfl
    have r4_w210 : w210.cell? ⟨w.heap.size, 4, none⟩ = some (.int .i64 (0)) := HZw210.out.cell 4 rfl
    have r5_w210 : w210.cell? ⟨w.heap.size, 5, none⟩ = some (.int .i64 (0)) := HZw210.out.cell 5 rfl
    have r6_w210 : w210.cell? ⟨w.heap.size, 6, none⟩ = some (.string (⟨#[]⟩)) := HZw210.out.cell 6 rfl
    have r7_w210 : w210.cell? ⟨w.heap.size, 7, none⟩ = some (.slice none 0 0) := HZw210.out.cell 7 rfl
    have r8_w210 : w210.cell? ⟨w.heap.size, 8, none⟩ = some (.slice none 0 0) := HZw210.out.cell 8 rfl
    have r9_w210 : w210.cell? ⟨w.heap.size, 9, none⟩ = some (.slice none 0 0) := HZw210.out.cell 9 rfl
    have r10_w210 : w210.cell? ⟨w.heap.size, 10, none⟩ = some (.complex .f64 0 0) := HZw210.out.cell 10 rfl
    have xf_w210 : ∀ j, w210.frozen? ⟨B8, j, none⟩ = false := HXw210.out.fz
    have rf_w210 : ∀ j, w210.frozen? ⟨w.heap.size, j, none⟩ = false := HZw210.out.fz
    have xl_w210 : B8 < w210.heap.size := HXw210.out.lt
    have rl_w210 : w.heap.size < w210.heap.size := HZw210.out.lt
    go_wp2_with fail
    obtain ⟨hO1, hO2⟩ := HPO205.out
    subst hO1 hO2
    refine reds_end (⟨7, ⟨#[]⟩, ⟨#[]⟩, 0, k135, n136, sx137, ax138, lx139, qx140, none, 0, 0, none, 0, 0, X, Y⟩ : Sv) rfl HZw210.out HBw210.out hRw HGW.out ?hsome (fun _ => ⟨fa203, HFA204.out, ?_⟩)
    case hsome => exact fun x hx => by cases hx
    exact HQw210.out
  | some y144 =>
    obtain ⟨rfl, rfl, rfl, hT, hq⟩ := H141.out.2.1 y144 rfl
    obtain ⟨b149, hbb⟩ : ∃ b, ts.length - m132.length = b := ⟨_, rfl⟩
    rw [hbb] at hq HSF143
    clear hbb
    have HXw134 : Hid (BoxS w134 B8 (⟨7, ⟨#[]⟩, ⟨#[]⟩, 0, 0, 0, ⟨#[]⟩, none, 0, 0, none, 0, 0, none, 0, 0, X, Y⟩ : Sv).cells) := HXV130.out.but hbn hBR
    have HZw134 : Hid (BoxS w134 w.heap.size (sv0 0 0).cells) := HZV130.out.but hbn hrR
    have HBw134 : Hid (But R w w134) := HBV130.out.then hbn
    have HTw134 : Hid (BoxS w134 (w.heap.size + 1) [.int .i64 ((1 : Nat) : Int), .string TX, .int .i64 (nn : Int), .int .i64 (aa : Int)]) := HTV130.out.but hbn htR
    have HQw134 : Hid (Rq w134 R g cap ts b149 false bad) := hq
    have HRE148_w134 : Hid (ExsD w134 (Dk B8 w134) y144.of (.slice ax138 lx139 qx140)) := ex_new hT HXV130.out.lt
    clear hbn
    have HAL145 : Hid (Pp.Alive (left ts b149)) := by rw [HSF143.out.1]; exact HSF143.out.2
    have HLT146 : Hid (b149 < ts.length) := alive_lt HAL145.out
    have hP := HPO0.out
    rw [Pp.bind_some HP142.out, ← HSF143.out.1] at hP
    have HPO147 : Hid _ := hP
    clear hT hq hP
    clear x0_W3 x1_W3 x2_W3 x3_W3 x4_W3 x5_W3 x6_W3 x7_W3 x8_W3 x9_W3 x10_W3 r0_W3 r1_W3 r2_W3 r3_W3 r4_W3 r5_W3 r6_W3 r7_W3 r8_W3 r9_W3 r10_W3 xf_W3 rf_W3 xl_W3 rl_W3
    have x0_w134 : w134.cell? ⟨B8, 0, none⟩ = some (.int .i64 (7)) := HXw134.out.cell 0 rfl
    have x1_w134 : w134.cell? ⟨B8, 1, none⟩ = some (.string (⟨#[]⟩)) := HXw134.out.cell 1 rfl
    have x2_w134 : w134.cell? ⟨B8, 2, none⟩ = some (.string (⟨#[]⟩)) := HXw134.out.cell 2 rfl
    have x3_w134 : w134.cell? ⟨B8, 3, none⟩ = some (.int .i64 (0)) := HXw134.out.cell 3 rfl
    have x4_w134 : w134.cell? ⟨B8, 4, none⟩ = some (.int .i64 (0)) := HXw134.out.cell 4 rfl
    have x5_w134 : w134.cell? ⟨B8, 5, none⟩ = some (.int .i64 (0)) := HXw134.out.cell 5 rfl
    have x6_w134 : w134.cell? ⟨B8, 6, none⟩ = some (.string (⟨#[]⟩)) := HXw134.out.cell 6 rfl
    have x7_w134 : w134.cell? ⟨B8, 7, none⟩ = some (.slice none 0 0) := HXw134.out.cell 7 rfl
    have x8_w134 : w134.cell? ⟨B8, 8, none⟩ = some (.slice none 0 0) := HXw134.out.cell 8 rfl
    have x9_w134 : w134.cell? ⟨B8, 9, none⟩ = some (.slice none 0 0) := HXw134.out.cell 9 rfl
    have x10_w134 : w134.cell? ⟨B8, 10, none⟩ = some (.complex .f64 X Y) := HXw134.out.cell 10 rfl
    have r0_w134 : w134.cell? ⟨w.heap.size, 0, none⟩ = some (.int .i64 (0)) := HZw134.out.cell 0 rfl
    have r1_w134 : w134.cell? ⟨w.heap.size, 1, none⟩ = some (.string (⟨#[]⟩)) := HZw134.out.cell 1 rfl
    have r2_w134 : w134.cell? ⟨w.heap.size, 2, none⟩ = some (.string (⟨#[]⟩)) := HZw134.out.cell 2 rfl
    have r3_w134 : w134.cell? ⟨w.heap.size, 3, none⟩ = some (.int .i64 (0)) := HZw134.out.cell 3 rfl
    have r4_w134 : w134.cell? ⟨w.heap.size, 4, none⟩ = some (.int .i64 (0)) := HZw134.out.cell 4 rfl
    have r5_w134 : w134.cell? ⟨w.heap.size, 5, none⟩ = some (.int .i64 (0)) := HZw134.out.cell 5 rfl
    have r6_w134 : w134.cell? ⟨w.heap.size, 6, none⟩ = some (.string (⟨#[]⟩)) := HZw134.out.cell 6 rfl
    have r7_w134 : w134.cell? ⟨w.heap.size, 7, none⟩ = some (.slice none 0 0) := HZw134.out.cell 7 rfl
    have r8_w134 : w134.cell? ⟨w.heap.size, 8, none⟩ = some (.slice none 0 0) := HZw134.out.cell 8 rfl
    have r9_w134 : w134.cell? ⟨w.heap.size, 9, none⟩ = some (.slice none 0 0) := HZw134.out.cell 9 rfl
    have r10_w134 : w134.cell? ⟨w.heap.size, 10, none⟩ = some (.complex .f64 0 0) := HZw134.out.cell 10 rfl
    have xf_w134 : ∀ j, w134.frozen? ⟨B8, j, none⟩ = false := HXw134.out.fz
    have rf_w134 : ∀ j, w134.frozen? ⟨w.heap.size, j, none⟩ = false := HZw134.out.fz
    have xl_w134 : B8 < w134.heap.size := HXw134.out.lt
    have rl_w134 : w.heap.size < w134.heap.size := HZw134.out.lt
    obtain ⟨V150, hV150⟩ : ∃ W, ((((w134).setCell ⟨B8, 4, none⟩ (.int .i64 y144.kind)).setCell ⟨B8, 5, none⟩ (.int .i64 y144.n)).setCell ⟨B8, 6, none⟩ (.string y144.name)).setCell ⟨B8, 7, none⟩ (.slice ax138 lx139 qx140) = W := ⟨_, rfl⟩
    have HXV150 : Hid (BoxS V150 B8 (⟨7, ⟨#[]⟩, ⟨#[]⟩, 0, y144.kind, y144.n, y144.name, ax138, lx139, qx140, none, 0, 0, none, 0, 0, X, Y⟩ : Sv).cells) := by rw [← hV150]; exact ((HXw134.out).setv 4 [.int .i64 y144.kind, .int .i64 y144.n, .string y144.name, .slice ax138 lx139 qx140] (⟨7, ⟨#[]⟩, ⟨#[]⟩, 0, y144.kind, y144.n, y144.name, ax138, lx139, qx140, none, 0, 0, none, 0, 0, X, Y⟩ : Sv).cells (by show 4 + 4 ≤ 11; decide) rfl)
    have HZV150 : Hid (BoxS V150 w.heap.size (sv0 0 0).cells) := by rw [← hV150]; exact ((HZw134.out).apart hrB 4 [.int .i64 y144.kind, .int .i64 y144.n, .string y144.name, .slice ax138 lx139 qx140])
    have HBV150 : Hid (But R w V150) := by rw [← hV150]; exact ((HBw134.out).sets (B := B8) (by omega) 4 [.int .i64 y144.kind, .int .i64 y144.n, .string y144.name, .slice ax138 lx139 qx140])
    have HTV150 : Hid (BoxS V150 (w.heap.size + 1) [.int .i64 ((1 : Nat) : Int), .string TX, .int .i64 (nn : Int), .int .i64 (aa : Int)]) := by rw [← hV150]; exact ((HTw134.out).apart htB 4 [.int .i64 y144.kind, .int .i64 y144.n, .string y144.name, .slice ax138 lx139 qx140])
    have uV150 : V150.cell? ⟨w.heap.size + 1, 1, none⟩ = some (.string TX) := HTV150.out.cell 1 rfl
    have HQV150 : Hid (Rq V150 R g cap ts b149 false bad) := by rw [← hV150]; exact ((HQw134.out).sets hBR hBg 4 [.int .i64 y144.kind, .int .i64 y144.n, .string y144.name, .slice ax138 lx139 qx140])
    have HRE148_V150 : Hid (ExsD V150 (Dk B8 V150) y144.of (.slice ax138 lx139 qx140)) := by rw [← hV150]; exact (ex_set HRE148_w134.out 4 [.int .i64 y144.kind, .int .i64 y144.n, .string y144.name, .slice ax138 lx139 qx140])
    obtain ⟨o151, m152, hp153⟩ : ∃ o1 m1, blk (plOf s ts) (left ts b149) = (o1, m1) := ⟨_, _, rfl⟩
    have HP159 : Hid (blk (plOf s ts) (left ts b149) = (o151, m152)) := hp153
    have NM : Hid _ := HBB.out.yes R g cap s ts b149 bad V150 HQV150.out HAL145.out HOK.out o151 m152 hp153
    have HSF160 : Hid (left ts (ts.length - m152.length) = m152 ∧ Pp.Alive m152) := by
      have h1 := HBB.out.kp (plOf s ts) (left ts b149) HAL145.out
      rw [hp153] at h1
      exact ⟨suf_left h1.1, h1.2⟩
    clear hp153
    go_wp2_with fail
    refine Calls.mono NM.out ?_
    rintro e w154 ⟨ax155, lx156, qx157, rfl, H158⟩
    have hbn := H158.out.1
    clear NM
    cases o151 with
    | none =>
      obtain ⟨fa198, hfa, hq⟩ := H158.out.2.2 rfl
      have HFA199 : Hid (fa198 < ts.length) := hfa
      have HXw154 : Hid (BoxS w154 B8 (⟨7, ⟨#[]⟩, ⟨#[]⟩, 0, y144.kind, y144.n, y144.name, ax138, lx139, qx140, none, 0, 0, none, 0, 0, X, Y⟩ : Sv).cells) := HXV150.out.but hbn hBR
      have HZw154 : Hid (BoxS w154 w.heap.size (sv0 0 0).cells) := HZV150.out.but hbn hrR
      have HBw154 : Hid (But R w w154) := HBV150.out.then hbn
      have HTw154 : Hid (BoxS w154 (w.heap.size + 1) [.int .i64 ((1 : Nat) : Int), .string TX, .int .i64 (nn : Int), .int .i64 (aa : Int)]) := HTV150.out.but hbn htR
      have HQw154 : Hid (Rq w154 R g cap ts fa198 true (ts.length - m152.length)) := hq
      have HRE148_w154 : Hid (ExsD w154 (Dk B8 w154) y144.of (.slice ax138 lx139 qx140)) := ex_but HRE148_V150.out hbn hRB
      clear hbn
      have hP := HPO147.out
      rw [Pp.bind_none HP159.out] at hP
      simp only [Prod.mk.injEq] at hP
      have HPO200 : Hid (o = none ∧ m = m152) := ⟨hP.1.symm, hP.2.symm⟩
      clear hfa hq hP
      clear x0_w134 x1_w134 x2_w134 x3_w134 x4_w134 x5_w134 x6_w134 x7_w134 x8_w134 x9_w134 x10_w134 r0_w134 r1_w134 r2_w134 r3_w134 r4_w134 r5_w134 r6_w134 r7_w134 r8_w134 r9_w134 r10_w134 xf_w134 rf_w134 xl_w134 rl_w134
      have x0_w154 : w154.cell? ⟨B8, 0, none⟩ = some (.int .i64 (7)) := HXw154.out.cell 0 rfl
      have x1_w154 : w154.cell? ⟨B8, 1, none⟩ = some (.string (⟨#[]⟩)) := HXw154.out.cell 1 rfl
      have x2_w154 : w154.cell? ⟨B8, 2, none⟩ = some (.string (⟨#[]⟩)) := HXw154.out.cell 2 rfl
      have x3_w154 : w154.cell? ⟨B8, 3, none⟩ = some (.int .i64 (0)) := HXw154.out.cell 3 rfl
      have x4_w154 : w154.cell? ⟨B8, 4, none⟩ = some (.int .i64 (y144.kind)) := HXw154.out.cell 4 rfl
      have x5_w154 : w154.cell? ⟨B8, 5, none⟩ = some (.int .i64 (y144.n)) := HXw154.out.cell 5 rfl
      have x6_w154 : w154.cell? ⟨B8, 6, none⟩ = some (.string (y144.name)) := HXw154.out.cell 6 rfl
      have x7_w154 : w154.cell? ⟨B8, 7, none⟩ = some (.slice ax138 lx139 qx140) := HXw154.out.cell 7 rfl
      have x8_w154 : w154.cell? ⟨B8, 8, none⟩ = some (.slice none 0 0) := HXw154.out.cell 8 rfl
      have x9_w154 : w154.cell? ⟨B8, 9, none⟩ = some (.slice none 0 0) := HXw154.out.cell 9 rfl
      have x10_w154 : w154.cell? ⟨B8, 10, none⟩ = some (.complex .f64 X Y) := HXw154.out.cell 10 rfl
      have r0_w154 : w154.cell? ⟨w.heap.size, 0, none⟩ = some (.int .i64 (0)) := HZw154.out.cell 0 rfl
      have r1_w154 : w154.cell? ⟨w.heap.size, 1, none⟩ = some (.string (⟨#[]⟩)) := HZw154.out.cell 1 rfl
      have r2_w154 : w154.cell? ⟨w.heap.size, 2, none⟩ = some (.string (⟨#[]⟩)) := HZw154.out.cell 2 rfl
      have r3_w154 : w154.cell? ⟨w.heap.size, 3, none⟩ = some (.int .i64 (0)) := HZw154.out.cell 3 rfl
      have r4_w154 : w154.cell? ⟨w.heap.size, 4, none⟩ = some (.int .i64 (0)) := HZw154.out.cell 4 rfl
      have r5_w154 : w154.cell? ⟨w.heap.size, 5, none⟩ = some (.int .i64 (0)) := HZw154.out.cell 5 rfl
      have r6_w154 : w154.cell? ⟨w.heap.size, 6, none⟩ = some (.string (⟨#[]⟩)) := HZw154.out.cell 6 rfl
      have r7_w154 : w154.cell? ⟨w.heap.size, 7, none⟩ = some (.slice none 0 0) := HZw154.out.cell 7 rfl
      have r8_w154 : w154.cell? ⟨w.heap.size, 8, none⟩ = some (.slice none 0 0) := HZw154.out.cell 8 rfl
      have r9_w154 : w154.cell? ⟨w.heap.size, 9, none⟩ = some (.slice none 0 0) := HZw154.out.cell 9 rfl
      have r10_w154 : w154.cell? ⟨w.heap.size, 10, none⟩ = some (.complex .f64 0 0) := HZw154.out.cell 10 rfl
      have xf_w154 : ∀ j, w154.frozen? ⟨B8, j, none⟩ = false := HXw154.out.fz
      have rf_w154 : ∀ j, w154.frozen? ⟨w.heap.size, j, none⟩ = false := HZw154.out.fz
      have xl_w154 : B8 < w154.heap.size := HXw154.out.lt
      have rl_w154 : w.heap.size < w154.heap.size := HZw154.out.lt
      obtain ⟨V201, hV201⟩ : ∃ W, (w154).setCell ⟨B8, 8, none⟩ (.slice ax155 lx156 qx157) = W := ⟨_, rfl⟩
      have HXV201 : Hid (BoxS V201 B8 (⟨7, ⟨#[]⟩, ⟨#[]⟩, 0, y144.kind, y144.n, y144.name, ax138, lx139, qx140, ax155, lx156, qx157, none, 0, 0, X, Y⟩ : Sv).cells) := by rw [← hV201]; exact ((HXw154.out).setv 8 [.slice ax155 lx156 qx157] (⟨7, ⟨#[]⟩, ⟨#[]⟩, 0, y144.kind, y144.n, y144.name, ax138, lx139, qx140, ax155, lx156, qx157, none, 0, 0, X, Y⟩ : Sv).cells (by show 8 + 1 ≤ 11; decide) rfl)
      have HZV201 : Hid (BoxS V201 w.heap.size (sv0 0 0).cells) := by rw [← hV201]; exact ((HZw154.out).apart hrB 8 [.slice ax155 lx156 qx157])
      have HBV201 : Hid (But R w V201) := by rw [← hV201]; exact ((HBw154.out).sets (B := B8) (by omega) 8 [.slice ax155 lx156 qx157])
      have HTV201 : Hid (BoxS V201 (w.heap.size + 1) [.int .i64 ((1 : Nat) : Int), .string TX, .int .i64 (nn : Int), .int .i64 (aa : Int)]) := by rw [← hV201]; exact ((HTw154.out).apart htB 8 [.slice ax155 lx156 qx157])
      have uV201 : V201.cell? ⟨w.heap.size + 1, 1, none⟩ = some (.string TX) := HTV201.out.cell 1 rfl
      have HQV201 : Hid (Rq V201 R g cap ts fa198 true (ts.length - m152.length)) := by rw [← hV201]; exact ((HQw154.out).sets hBR hBg 8 [.slice ax155 lx156 qx157])
      have HRE148_V201 : Hid (ExsD V201 (Dk B8 V201) y144.of (.slice ax138 lx139 qx140)) := by rw [← hV201]; exact (ex_set HRE148_w154.out 8 [.slice ax155 lx156 qx157])
      have NM : Hid (Calls Try.prog 53 #[.pointer (some ⟨R, 0, none⟩), .string ⟨#[101, 108, 115, 101]⟩] V201 fun e w' => e = .returned (.bool false) ∧ Kept V201 w') := by
        have := rword_any HQV201.out HFA199.out ⟨#[101, 108, 115, 101]⟩
        exact this
      go_wp2_with fail
      refine Calls.mono NM.out ?_
      rintro e w202 ⟨rfl, kk⟩
      have hbn : But R V201 w202 := But.of kk
      clear NM
      have HXw202 : Hid (BoxS w202 B8 (⟨7, ⟨#[]⟩, ⟨#[]⟩, 0, y144.kind, y144.n, y144.name, ax138, lx139, qx140, ax155, lx156, qx157, none, 0, 0, X, Y⟩ : Sv).cells) := HXV201.out.but hbn hBR
      have HZw202 : Hid (BoxS w202 w.heap.size (sv0 0 0).cells) := HZV201.out.but hbn hrR
      have HBw202 : Hid (But R w w202) := HBV201.out.then hbn
      have HTw202 : Hid (BoxS w202 (w.heap.size + 1) [.int .i64 ((1 : Nat) : Int), .string TX, .int .i64 (nn : Int), .int .i64 (aa : Int)]) := HTV201.out.but hbn htR
      have HQw202 : Hid (Rq w202 R g cap ts fa198 true (ts.length - m152.length)) := HQV201.out.kept kk
      have HRE148_w202 : Hid (ExsD w202 (Dk B8 w202) y144.of (.slice ax138 lx139 qx140)) := ex_but HRE148_V201.out hbn hRB
      clear hbn
      clear kk
      clear x0_w154 x1_w154 x2_w154 x3_w154 x4_w154 x5_w154 x6_w154 x7_w154 x8_w154 x9_w154 x10_w154 r0_w154 r1_w154 r2_w154 r3_w154 r4_w154 r5_w154 r6_w154 r7_w154 r8_w154 r9_w154 r10_w154 xf_w154 rf_w154 xl_w154 rl_w154
      have x0_w202 : w202.cell? ⟨B8, 0, none⟩ = some (.int .i64 (7)) := HXw202.out.cell 0 rfl
      have x1_w202 : w202.cell? ⟨B8, 1, none⟩ = some (.string (⟨#[]⟩)) := HXw202.out.cell 1 rfl
      have x2_w202 : w202.cell? ⟨B8, 2, none⟩ = some (.string (⟨#[]⟩)) := HXw202.out.cell 2 rfl
      have x3_w202 : w202.cell? ⟨B8, 3, none⟩ = some (.int .i64 (0)) := HXw202.out.cell 3 rfl
      have x4_w202 : w202.cell? ⟨B8, 4, none⟩ = some (.int .i64 (y144.kind)) := HXw202.out.cell 4 rfl
      have x5_w202 : w202.cell? ⟨B8, 5, none⟩ = some (.int .i64 (y144.n)) := HXw202.out.cell 5 rfl
      have x6_w202 : w202.cell? ⟨B8, 6, none⟩ = some (.string (y144.name)) := HXw202.out.cell 6 rfl
      have x7_w202 : w202.cell? ⟨B8, 7, none⟩ = some (.slice ax138 lx139 qx140) := HXw202.out.cell 7 rfl
      have x8_w202 : w202.cell? ⟨B8, 8, none⟩ = some (.slice ax155 lx156 qx157) := HXw202.out.cell 8 rfl
      have x9_w202 : w202.cell? ⟨B8, 9, none⟩ = some (.slice none 0 0) := HXw202.out.cell 9 rfl
      have x10_w202 : w202.cell? ⟨B8, 10, none⟩ = some (.complex .f64 X Y) := HXw202.out.cell 10 rfl
      have r0_w202 : w202.cell? ⟨w.heap.size, 0, none⟩ = some (.int .i64 (0)) := HZw202.out.cell 0 rfl
      have r1_w202 : w202.cell? ⟨w.heap.size, 1, none⟩ = some (.string (⟨#[]⟩)) := HZw202.out.cell 1 rfl
      have r2_w202 : w202.cell? ⟨w.heap.size, 2, none⟩ = some (.string (⟨#[]⟩)) := HZw202.out.cell 2 rfl
      have r3_w202 : w202.cell? ⟨w.heap.size, 3, none⟩ = some (.int .i64 (0)) := HZw202.out.cell 3 rfl
      have r4_w202 : w202.cell? ⟨w.heap.size, 4, none⟩ = some (.int .i64 (0)) := HZw202.out.cell 4 rfl
      have r5_w202 : w202.cell? ⟨w.heap.size, 5, none⟩ = some (.int .i64 (0)) := HZw202.out.cell 5 rfl
      have r6_w202 : w202.cell? ⟨w.heap.size, 6, none⟩ = some (.string (⟨#[]⟩)) := HZw202.out.cell 6 rfl
      have r7_w202 : w202.cell? ⟨w.heap.size, 7, none⟩ = some (.slice none 0 0) := HZw202.out.cell 7 rfl
      have r8_w202 : w202.cell? ⟨w.heap.size, 8, none⟩ = some (.slice none 0 0) := HZw202.out.cell 8 rfl
      have r9_w202 : w202.cell? ⟨w.heap.size, 9, none⟩ = some (.slice none 0 0) := HZw202.out.cell 9 rfl
      have r10_w202 : w202.cell? ⟨w.heap.size, 10, none⟩ = some (.complex .f64 0 0) := HZw202.out.cell 10 rfl
      have xf_w202 : ∀ j, w202.frozen? ⟨B8, j, none⟩ = false := HXw202.out.fz
      have rf_w202 : ∀ j, w202.frozen? ⟨w.heap.size, j, none⟩ = false := HZw202.out.fz
      have xl_w202 : B8 < w202.heap.size := HXw202.out.lt
      have rl_w202 : w.heap.size < w202.heap.size := HZw202.out.lt
      have x0_w202 : w202.cell? ⟨B8, 0, none⟩ = some (.int .i64 (7)) := HXw202.out.cell 0 rfl
      have x1_w202 : w202.cell? ⟨B8, 1, none⟩ = some (.string (⟨#[]⟩)) := HXw202.out.cell 1 rfl
      have x2_w202 : w202.cell? ⟨B8, 2, none⟩ = some (.string (⟨#[]⟩)) := HXw202.out.cell 2 rfl
      have x3_w202 : w202.cell? ⟨B8, 3, none⟩ = some (.int .i64 (0)) := HXw202.out.cell 3 rfl
      have x4_w202 : w202.cell? ⟨B8, 4, none⟩ = some (.int .i64 (y144.kind)) := HXw202.out.cell 4 rfl
      have x5_w202 : w202.cell? ⟨B8, 5, none⟩ = some (.int .i64 (y144.n)) := HXw202.out.cell 5 rfl
      have x6_w202 : w202.cell? ⟨B8, 6, none⟩ = some (.string (y144.name)) := HXw202.out.cell 6 rfl
      have x7_w202 : w202.cell? ⟨B8, 7, none⟩ = some (.slice ax138 lx139 qx140) := HXw202.out.cell 7 rfl
      have x8_w202 : w202.cell? ⟨B8, 8, none⟩ = some (.slice ax155 lx156 qx157) := HXw202.out.cell 8 rfl
      have x9_w202 : w202.cell? ⟨B8, 9, none⟩ = some (.slice none 0 0) := HXw202.out.cell 9 rfl
      have x10_w202 : w202.cell? ⟨B8, 10, none⟩ = some (.complex .f64 X Y) := HXw202.out.cell 10 rfl
      have r0_w202 : w202.cell? ⟨w.heap.size, 0, none⟩ = some (.int .i64 (0)) := HZw202.out.cell 0 rfl
      have r1_w202 : w202.cell? ⟨w.heap.size, 1, none⟩ = some (.string (⟨#[]⟩)) := HZw202.out.cell 1 rfl
      have r2_w202 : w202.cell? ⟨w.heap.size, 2, none⟩ = some (.string (⟨#[]⟩)) := HZw202.out.cell 2 rfl
      have r3_w202 : w202.cell? ⟨w.heap.size, 3, none⟩ = some (.int .i64 (0)) := HZw202.out.cell 3 rfl
      have r4_w202 : w202.cell? ⟨w.heap.size, 4, none⟩ = some (.int .i64 (0)) := HZw202.out.cell 4 rfl
      have r5_w202 : w202.cell? ⟨w.heap.size, 5, none⟩ = some (.int .i64 (0)) := HZw202.out.cell 5 rfl
      have r6_w202 : w202.cell? ⟨w.heap.size, 6, none⟩ = some (.string (⟨#[]⟩)) := HZw202.out.cell 6 rfl
      have r7_w202 : w202.cell? ⟨w.heap.size, 7, none⟩ = some (.slice none 0 0) := HZw202.out.cell 7 rfl
      have r8_w202 : w202.cell? ⟨w.heap.size, 8, none⟩ = some (.slice none 0 0) := HZw202.out.cell 8 rfl
      have r9_w202 : w202.cell? ⟨w.heap.size, 9, none⟩ = some (.slice none 0 0) := HZw202.out.cell 9 rfl
      have r10_w202 : w202.cell? ⟨w.heap.size, 10, none⟩ = some (.complex .f64 0 0) := HZw202.out.cell 10 rfl
      have xf_w202 : ∀ j, w202.frozen? ⟨B8, j, none⟩ = false := HXw202.out.fz
      have rf_w202 : ∀ j, w202.frozen? ⟨w.heap.size, j, none⟩ = false := HZw202.out.fz
      have xl_w202 : B8 < w202.heap.size := HXw202.out.lt
      have rl_w202 : w.heap.size < w202.heap.size := HZw202.out.lt
      go_wp2_with fail
      obtain ⟨hO1, hO2⟩ := HPO200.out
      subst hO1 hO2
      refine reds_end (⟨7, ⟨#[]⟩, ⟨#[]⟩, 0, y144.kind, y144.n, y144.name, ax138, lx139, qx140, ax155, lx156, qx157, none, 0, 0, X, Y⟩ : Sv) rfl HZw202.out HBw202.out hRw HGW.out ?hsome (fun _ => ⟨fa198, HFA199.out, ?_⟩)
      case hsome => exact fun x hx => by cases hx
      exact HQw202.out
    | some y161 =>
      obtain ⟨hT, hq⟩ := H158.out.2.1 y161 rfl
      obtain ⟨b166, hbb⟩ : ∃ b, ts.length - m152.length = b := ⟨_, rfl⟩
      rw [hbb] at hq HSF160
      clear hbb
      have HXw154 : Hid (BoxS w154 B8 (⟨7, ⟨#[]⟩, ⟨#[]⟩, 0, y144.kind, y144.n, y144.name, ax138, lx139, qx140, none, 0, 0, none, 0, 0, X, Y⟩ : Sv).cells) := HXV150.out.but hbn hBR
      have HZw154 : Hid (BoxS w154 w.heap.size (sv0 0 0).cells) := HZV150.out.but hbn hrR
      have HBw154 : Hid (But R w w154) := HBV150.out.then hbn
      have HTw154 : Hid (BoxS w154 (w.heap.size + 1) [.int .i64 ((1 : Nat) : Int), .string TX, .int .i64 (nn : Int), .int .i64 (aa : Int)]) := HTV150.out.but hbn htR
      have HQw154 : Hid (Rq w154 R g cap ts b166 false bad) := hq
      have HRB165_w154 : Hid (StsD w154 (Dk B8 w154) y161 (.slice ax155 lx156 qx157)) := ss_new hT HXV150.out.lt
      have HRE148_w154 : Hid (ExsD w154 (Dk B8 w154) y144.of (.slice ax138 lx139 qx140)) := ex_but HRE148_V150.out hbn hRB
      clear hbn
      have HAL162 : Hid (Pp.Alive (left ts b166)) := by rw [HSF160.out.1]; exact HSF160.out.2
      have HLT163 : Hid (b166 < ts.length) := alive_lt HAL162.out
      have hP := HPO147.out
      rw [Pp.bind_some HP159.out, ← HSF160.out.1] at hP
      have HPO164 : Hid _ := hP
      clear hT hq hP
      clear x0_w134 x1_w134 x2_w134 x3_w134 x4_w134 x5_w134 x6_w134 x7_w134 x8_w134 x9_w134 x10_w134 r0_w134 r1_w134 r2_w134 r3_w134 r4_w134 r5_w134 r6_w134 r7_w134 r8_w134 r9_w134 r10_w134 xf_w134 rf_w134 xl_w134 rl_w134
      have x0_w154 : w154.cell? ⟨B8, 0, none⟩ = some (.int .i64 (7)) := HXw154.out.cell 0 rfl
      have x1_w154 : w154.cell? ⟨B8, 1, none⟩ = some (.string (⟨#[]⟩)) := HXw154.out.cell 1 rfl
      have x2_w154 : w154.cell? ⟨B8, 2, none⟩ = some (.string (⟨#[]⟩)) := HXw154.out.cell 2 rfl
      have x3_w154 : w154.cell? ⟨B8, 3, none⟩ = some (.int .i64 (0)) := HXw154.out.cell 3 rfl
      have x4_w154 : w154.cell? ⟨B8, 4, none⟩ = some (.int .i64 (y144.kind)) := HXw154.out.cell 4 rfl
      have x5_w154 : w154.cell? ⟨B8, 5, none⟩ = some (.int .i64 (y144.n)) := HXw154.out.cell 5 rfl
      have x6_w154 : w154.cell? ⟨B8, 6, none⟩ = some (.string (y144.name)) := HXw154.out.cell 6 rfl
      have x7_w154 : w154.cell? ⟨B8, 7, none⟩ = some (.slice ax138 lx139 qx140) := HXw154.out.cell 7 rfl
      have x8_w154 : w154.cell? ⟨B8, 8, none⟩ = some (.slice none 0 0) := HXw154.out.cell 8 rfl
      have x9_w154 : w154.cell? ⟨B8, 9, none⟩ = some (.slice none 0 0) := HXw154.out.cell 9 rfl
      have x10_w154 : w154.cell? ⟨B8, 10, none⟩ = some (.complex .f64 X Y) := HXw154.out.cell 10 rfl
      have r0_w154 : w154.cell? ⟨w.heap.size, 0, none⟩ = some (.int .i64 (0)) := HZw154.out.cell 0 rfl
      have r1_w154 : w154.cell? ⟨w.heap.size, 1, none⟩ = some (.string (⟨#[]⟩)) := HZw154.out.cell 1 rfl
      have r2_w154 : w154.cell? ⟨w.heap.size, 2, none⟩ = some (.string (⟨#[]⟩)) := HZw154.out.cell 2 rfl
      have r3_w154 : w154.cell? ⟨w.heap.size, 3, none⟩ = some (.int .i64 (0)) := HZw154.out.cell 3 rfl
      have r4_w154 : w154.cell? ⟨w.heap.size, 4, none⟩ = some (.int .i64 (0)) := HZw154.out.cell 4 rfl
      have r5_w154 : w154.cell? ⟨w.heap.size, 5, none⟩ = some (.int .i64 (0)) := HZw154.out.cell 5 rfl
      have r6_w154 : w154.cell? ⟨w.heap.size, 6, none⟩ = some (.string (⟨#[]⟩)) := HZw154.out.cell 6 rfl
      have r7_w154 : w154.cell? ⟨w.heap.size, 7, none⟩ = some (.slice none 0 0) := HZw154.out.cell 7 rfl
      have r8_w154 : w154.cell? ⟨w.heap.size, 8, none⟩ = some (.slice none 0 0) := HZw154.out.cell 8 rfl
      have r9_w154 : w154.cell? ⟨w.heap.size, 9, none⟩ = some (.slice none 0 0) := HZw154.out.cell 9 rfl
      have r10_w154 : w154.cell? ⟨w.heap.size, 10, none⟩ = some (.complex .f64 0 0) := HZw154.out.cell 10 rfl
      have xf_w154 : ∀ j, w154.frozen? ⟨B8, j, none⟩ = false := HXw154.out.fz
      have rf_w154 : ∀ j, w154.frozen? ⟨w.heap.size, j, none⟩ = false := HZw154.out.fz
      have xl_w154 : B8 < w154.heap.size := HXw154.out.lt
      have rl_w154 : w.heap.size < w154.heap.size := HZw154.out.lt
      obtain ⟨V167, hV167⟩ : ∃ W, (w154).setCell ⟨B8, 8, none⟩ (.slice ax155 lx156 qx157) = W := ⟨_, rfl⟩
      have HXV167 : Hid (BoxS V167 B8 (⟨7, ⟨#[]⟩, ⟨#[]⟩, 0, y144.kind, y144.n, y144.name, ax138, lx139, qx140, ax155, lx156, qx157, none, 0, 0, X, Y⟩ : Sv).cells) := by rw [← hV167]; exact ((HXw154.out).setv 8 [.slice ax155 lx156 qx157] (⟨7, ⟨#[]⟩, ⟨#[]⟩, 0, y144.kind, y144.n, y144.name, ax138, lx139, qx140, ax155, lx156, qx157, none, 0, 0, X, Y⟩ : Sv).cells (by show 8 + 1 ≤ 11; decide) rfl)
      have HZV167 : Hid (BoxS V167 w.heap.size (sv0 0 0).cells) := by rw [← hV167]; exact ((HZw154.out).apart hrB 8 [.slice ax155 lx156 qx157])
      have HBV167 : Hid (But R w V167) := by rw [← hV167]; exact ((HBw154.out).sets (B := B8) (by omega) 8 [.slice ax155 lx156 qx157])
      have HTV167 : Hid (BoxS V167 (w.heap.size + 1) [.int .i64 ((1 : Nat) : Int), .string TX, .int .i64 (nn : Int), .int .i64 (aa : Int)]) := by rw [← hV167]; exact ((HTw154.out).apart htB 8 [.slice ax155 lx156 qx157])
      have uV167 : V167.cell? ⟨w.heap.size + 1, 1, none⟩ = some (.string TX) := HTV167.out.cell 1 rfl
      have HQV167 : Hid (Rq V167 R g cap ts b166 false bad) := by rw [← hV167]; exact ((HQw154.out).sets hBR hBg 8 [.slice ax155 lx156 qx157])
      have HRE148_V167 : Hid (ExsD V167 (Dk B8 V167) y144.of (.slice ax138 lx139 qx140)) := by rw [← hV167]; exact (ex_set HRE148_w154.out 8 [.slice ax155 lx156 qx157])
      have HRB165_V167 : Hid (StsD V167 (Dk B8 V167) y161 (.slice ax155 lx156 qx157)) := by rw [← hV167]; exact (ss_set HRB165_w154.out 8 [.slice ax155 lx156 qx157])
      cases hnm : isWd Pp.tElse (Px.hd (left ts b166)) with
      | true =>
        have H169 : Hid (isWd Pp.tElse (Px.hd (left ts b166)) = true) := hnm
        have NM : Hid (Calls Try.prog 53 #[.pointer (some ⟨R, 0, none⟩), .string ⟨#[101, 108, 115, 101]⟩] V167 fun e w' => e = .returned (.bool true) ∧ Kept V167 w') := by
          have := rword_any HQV167.out HLT163.out ⟨#[101, 108, 115, 101]⟩
          rw [show isWd (⟨#[101, 108, 115, 101]⟩ : ByteArray).data.toList (Px.hd (left ts b166)) = isWd Pp.tElse (Px.hd (left ts b166)) from rfl, hnm] at this
          exact this
        go_wp2_with fail
        refine Calls.mono NM.out ?_
        rintro e w168 ⟨rfl, kk⟩
        have hbn : But R V167 w168 := But.of kk
        clear NM
        have HXw168 : Hid (BoxS w168 B8 (⟨7, ⟨#[]⟩, ⟨#[]⟩, 0, y144.kind, y144.n, y144.name, ax138, lx139, qx140, ax155, lx156, qx157, none, 0, 0, X, Y⟩ : Sv).cells) := HXV167.out.but hbn hBR
        have HZw168 : Hid (BoxS w168 w.heap.size (sv0 0 0).cells) := HZV167.out.but hbn hrR
        have HBw168 : Hid (But R w w168) := HBV167.out.then hbn
        have HTw168 : Hid (BoxS w168 (w.heap.size + 1) [.int .i64 ((1 : Nat) : Int), .string TX, .int .i64 (nn : Int), .int .i64 (aa : Int)]) := HTV167.out.but hbn htR
        have HQw168 : Hid (Rq w168 R g cap ts b166 false bad) := HQV167.out.kept kk
        have HRE148_w168 : Hid (ExsD w168 (Dk B8 w168) y144.of (.slice ax138 lx139 qx140)) := ex_but HRE148_V167.out hbn hRB
        have HRB165_w168 : Hid (StsD w168 (Dk B8 w168) y161 (.slice ax155 lx156 qx157)) := ss_but HRB165_V167.out hbn hRB
        clear hbn
        clear kk
        clear x0_w154 x1_w154 x2_w154 x3_w154 x4_w154 x5_w154 x6_w154 x7_w154 x8_w154 x9_w154 x10_w154 r0_w154 r1_w154 r2_w154 r3_w154 r4_w154 r5_w154 r6_w154 r7_w154 r8_w154 r9_w154 r10_w154 xf_w154 rf_w154 xl_w154 rl_w154
        have HAL170 : Hid (Pp.Alive (left ts (b166 + 1))) := alive_next HAL162.out (wd_kind H169.out)
        have HLT171 : Hid (b166 + 1 < ts.length) := alive_lt HAL170.out
        have hP := HPO164.out
        rw [bind_other_yes (by have := wd_text HOK.out HLT163.out (x := Pp.tElse) (by decide); rw [H169.out] at this; exact of_decide_eq_true this.symm), left_tail] at hP
        have HPO172 : Hid _ := hP
        clear hnm hP
        have c1e := HQw168.out.c1
        have z1e := HQw168.out.z 1
        have hRe := HQw168.out.rlt
        have hlne : b166 < 6002 := by have h1 := HLT163.out; have h2 := HR.out.few; omega
        have hwre : IntKind.i64.wrap ((b166 : Int) + 1) = (b166 : Int) + 1 := by rw [IntKind.wrap_i64]; omega
        obtain ⟨V173, hV173⟩ : ∃ W, w168.setCell ⟨R, 1, none⟩ (.int .i64 ((b166 : Int) + 1)) = W := ⟨_, rfl⟩
        have hbn : But R w168 V173 := by rw [← hV173]; exact (But.refl _ _).set _ _
        have hqv : Rq V173 R g cap ts (b166 + 1) false bad := by
          have := HQw168.out.at' (b166 + 1) (Nat.le_of_lt HLT171.out)
          rw [show ((b166 + 1 : Nat) : Int) = (b166 : Int) + 1 by omega, hV173] at this
          exact this
        have HXV173 : Hid (BoxS V173 B8 (⟨7, ⟨#[]⟩, ⟨#[]⟩, 0, y144.kind, y144.n, y144.name, ax138, lx139, qx140, ax155, lx156, qx157, none, 0, 0, X, Y⟩ : Sv).cells) := HXw168.out.but hbn hBR
        have HZV173 : Hid (BoxS V173 w.heap.size (sv0 0 0).cells) := HZw168.out.but hbn hrR
        have HBV173 : Hid (But R w V173) := HBw168.out.then hbn
        have HTV173 : Hid (BoxS V173 (w.heap.size + 1) [.int .i64 ((1 : Nat) : Int), .string TX, .int .i64 (nn : Int), .int .i64 (aa : Int)]) := HTw168.out.but hbn htR
        have HQV173 : Hid (Rq V173 R g cap ts (b166 + 1) false bad) := hqv
        have HRE148_V173 : Hid (ExsD V173 (Dk B8 V173) y144.of (.slice ax138 lx139 qx140)) := ex_but HRE148_w168.out hbn hRB
        have HRB165_V173 : Hid (StsD V173 (Dk B8 V173) y161 (.slice ax155 lx156 qx157)) := ss_but HRB165_w168.out hbn hRB
        clear hbn
        clear hqv
        have x0_V173 : V173.cell? ⟨B8, 0, none⟩ = some (.int .i64 (7)) := HXV173.out.cell 0 rfl
        have x1_V173 : V173.cell? ⟨B8, 1, none⟩ = some (.string (⟨#[]⟩)) := HXV173.out.cell 1 rfl
        have x2_V173 : V173.cell? ⟨B8, 2, none⟩ = some (.string (⟨#[]⟩)) := HXV173.out.cell 2 rfl
        have x3_V173 : V173.cell? ⟨B8, 3, none⟩ = some (.int .i64 (0)) := HXV173.out.cell 3 rfl
        have x4_V173 : V173.cell? ⟨B8, 4, none⟩ = some (.int .i64 (y144.kind)) := HXV173.out.cell 4 rfl
        have x5_V173 : V173.cell? ⟨B8, 5, none⟩ = some (.int .i64 (y144.n)) := HXV173.out.cell 5 rfl
        have x6_V173 : V173.cell? ⟨B8, 6, none⟩ = some (.string (y144.name)) := HXV173.out.cell 6 rfl
        have x7_V173 : V173.cell? ⟨B8, 7, none⟩ = some (.slice ax138 lx139 qx140) := HXV173.out.cell 7 rfl
        have x8_V173 : V173.cell? ⟨B8, 8, none⟩ = some (.slice ax155 lx156 qx157) := HXV173.out.cell 8 rfl
        have x9_V173 : V173.cell? ⟨B8, 9, none⟩ = some (.slice none 0 0) := HXV173.out.cell 9 rfl
        have x10_V173 : V173.cell? ⟨B8, 10, none⟩ = some (.complex .f64 X Y) := HXV173.out.cell 10 rfl
        have r0_V173 : V173.cell? ⟨w.heap.size, 0, none⟩ = some (.int .i64 (0)) := HZV173.out.cell 0 rfl
        have r1_V173 : V173.cell? ⟨w.heap.size, 1, none⟩ = some (.string (⟨#[]⟩)) := HZV173.out.cell 1 rfl
        have r2_V173 : V173.cell? ⟨w.heap.size, 2, none⟩ = some (.string (⟨#[]⟩)) := HZV173.out.cell 2 rfl
        have r3_V173 : V173.cell? ⟨w.heap.size, 3, none⟩ = some (.int .i64 (0)) := HZV173.out.cell 3 rfl
        have r4_V173 : V173.cell? ⟨w.heap.size, 4, none⟩ = some (.int .i64 (0)) := HZV173.out.cell 4 rfl
        have r5_V173 : V173.cell? ⟨w.heap.size, 5, none⟩ = some (.int .i64 (0)) := HZV173.out.cell 5 rfl
        have r6_V173 : V173.cell? ⟨w.heap.size, 6, none⟩ = some (.string (⟨#[]⟩)) := HZV173.out.cell 6 rfl
        have r7_V173 : V173.cell? ⟨w.heap.size, 7, none⟩ = some (.slice none 0 0) := HZV173.out.cell 7 rfl
        have r8_V173 : V173.cell? ⟨w.heap.size, 8, none⟩ = some (.slice none 0 0) := HZV173.out.cell 8 rfl
        have r9_V173 : V173.cell? ⟨w.heap.size, 9, none⟩ = some (.slice none 0 0) := HZV173.out.cell 9 rfl
        have r10_V173 : V173.cell? ⟨w.heap.size, 10, none⟩ = some (.complex .f64 0 0) := HZV173.out.cell 10 rfl
        have xf_V173 : ∀ j, V173.frozen? ⟨B8, j, none⟩ = false := HXV173.out.fz
        have rf_V173 : ∀ j, V173.frozen? ⟨w.heap.size, j, none⟩ = false := HZV173.out.fz
        have xl_V173 : B8 < V173.heap.size := HXV173.out.lt
        have rl_V173 : w.heap.size < V173.heap.size := HZV173.out.lt
        obtain ⟨o174, m175, hp176⟩ : ∃ o1 m1, blk (plOf s ts) (left ts (b166 + 1)) = (o1, m1) := ⟨_, _, rfl⟩
        have HP182 : Hid (blk (plOf s ts) (left ts (b166 + 1)) = (o174, m175)) := hp176
        have NM : Hid _ := HBB.out.yes R g cap s ts (b166 + 1) bad V173 HQV173.out HAL170.out HOK.out o174 m175 hp176
        have HSF183 : Hid (left ts (ts.length - m175.length) = m175 ∧ Pp.Alive m175) := by
          have h1 := HBB.out.kp (plOf s ts) (left ts (b166 + 1)) HAL170.out
          rw [hp176] at h1
          exact ⟨suf_left h1.1, h1.2⟩
        clear hp176
        go_wp2_with fail
        refine Calls.mono NM.out ?_
        rintro e w177 ⟨ax178, lx179, qx180, rfl, H181⟩
        have hbn := H181.out.1
        clear NM
        cases o174 with
        | none =>
          obtain ⟨fa191, hfa, hq⟩ := H181.out.2.2 rfl
          have HFA192 : Hid (fa191 < ts.length) := hfa
          have HXw177 : Hid (BoxS w177 B8 (⟨7, ⟨#[]⟩, ⟨#[]⟩, 0, y144.kind, y144.n, y144.name, ax138, lx139, qx140, ax155, lx156, qx157, none, 0, 0, X, Y⟩ : Sv).cells) := HXV173.out.but hbn hBR
          have HZw177 : Hid (BoxS w177 w.heap.size (sv0 0 0).cells) := HZV173.out.but hbn hrR
          have HBw177 : Hid (But R w w177) := HBV173.out.then hbn
          have HTw177 : Hid (BoxS w177 (w.heap.size + 1) [.int .i64 ((1 : Nat) : Int), .string TX, .int .i64 (nn : Int), .int .i64 (aa : Int)]) := HTV173.out.but hbn htR
          have HQw177 : Hid (Rq w177 R g cap ts fa191 true (ts.length - m175.length)) := hq
          have HRE148_w177 : Hid (ExsD w177 (Dk B8 w177) y144.of (.slice ax138 lx139 qx140)) := ex_but HRE148_V173.out hbn hRB
          have HRB165_w177 : Hid (StsD w177 (Dk B8 w177) y161 (.slice ax155 lx156 qx157)) := ss_but HRB165_V173.out hbn hRB
          clear hbn
          have hP := HPO172.out
          rw [Pp.bind_none HP182.out] at hP
          simp only [Prod.mk.injEq] at hP
          have HPO193 : Hid (o = none ∧ m = m175) := ⟨hP.1.symm, hP.2.symm⟩
          clear hfa hq hP
          clear x0_V173 x1_V173 x2_V173 x3_V173 x4_V173 x5_V173 x6_V173 x7_V173 x8_V173 x9_V173 x10_V173 r0_V173 r1_V173 r2_V173 r3_V173 r4_V173 r5_V173 r6_V173 r7_V173 r8_V173 r9_V173 r10_V173 xf_V173 rf_V173 xl_V173 rl_V173
          have x0_w177 : w177.cell? ⟨B8, 0, none⟩ = some (.int .i64 (7)) := HXw177.out.cell 0 rfl
          have x1_w177 : w177.cell? ⟨B8, 1, none⟩ = some (.string (⟨#[]⟩)) := HXw177.out.cell 1 rfl
          have x2_w177 : w177.cell? ⟨B8, 2, none⟩ = some (.string (⟨#[]⟩)) := HXw177.out.cell 2 rfl
          have x3_w177 : w177.cell? ⟨B8, 3, none⟩ = some (.int .i64 (0)) := HXw177.out.cell 3 rfl
          have x4_w177 : w177.cell? ⟨B8, 4, none⟩ = some (.int .i64 (y144.kind)) := HXw177.out.cell 4 rfl
          have x5_w177 : w177.cell? ⟨B8, 5, none⟩ = some (.int .i64 (y144.n)) := HXw177.out.cell 5 rfl
          have x6_w177 : w177.cell? ⟨B8, 6, none⟩ = some (.string (y144.name)) := HXw177.out.cell 6 rfl
          have x7_w177 : w177.cell? ⟨B8, 7, none⟩ = some (.slice ax138 lx139 qx140) := HXw177.out.cell 7 rfl
          have x8_w177 : w177.cell? ⟨B8, 8, none⟩ = some (.slice ax155 lx156 qx157) := HXw177.out.cell 8 rfl
          have x9_w177 : w177.cell? ⟨B8, 9, none⟩ = some (.slice none 0 0) := HXw177.out.cell 9 rfl
          have x10_w177 : w177.cell? ⟨B8, 10, none⟩ = some (.complex .f64 X Y) := HXw177.out.cell 10 rfl
          have r0_w177 : w177.cell? ⟨w.heap.size, 0, none⟩ = some (.int .i64 (0)) := HZw177.out.cell 0 rfl
          have r1_w177 : w177.cell? ⟨w.heap.size, 1, none⟩ = some (.string (⟨#[]⟩)) := HZw177.out.cell 1 rfl
          have r2_w177 : w177.cell? ⟨w.heap.size, 2, none⟩ = some (.string (⟨#[]⟩)) := HZw177.out.cell 2 rfl
          have r3_w177 : w177.cell? ⟨w.heap.size, 3, none⟩ = some (.int .i64 (0)) := HZw177.out.cell 3 rfl
          have r4_w177 : w177.cell? ⟨w.heap.size, 4, none⟩ = some (.int .i64 (0)) := HZw177.out.cell 4 rfl
          have r5_w177 : w177.cell? ⟨w.heap.size, 5, none⟩ = some (.int .i64 (0)) := HZw177.out.cell 5 rfl
          have r6_w177 : w177.cell? ⟨w.heap.size, 6, none⟩ = some (.string (⟨#[]⟩)) := HZw177.out.cell 6 rfl
          have r7_w177 : w177.cell? ⟨w.heap.size, 7, none⟩ = some (.slice none 0 0) := HZw177.out.cell 7 rfl
          have r8_w177 : w177.cell? ⟨w.heap.size, 8, none⟩ = some (.slice none 0 0) := HZw177.out.cell 8 rfl
          have r9_w177 : w177.cell? ⟨w.heap.size, 9, none⟩ = some (.slice none 0 0) := HZw177.out.cell 9 rfl
          have r10_w177 : w177.cell? ⟨w.heap.size, 10, none⟩ = some (.complex .f64 0 0) := HZw177.out.cell 10 rfl
          have xf_w177 : ∀ j, w177.frozen? ⟨B8, j, none⟩ = false := HXw177.out.fz
          have rf_w177 : ∀ j, w177.frozen? ⟨w.heap.size, j, none⟩ = false := HZw177.out.fz
          have xl_w177 : B8 < w177.heap.size := HXw177.out.lt
          have rl_w177 : w.heap.size < w177.heap.size := HZw177.out.lt
          obtain ⟨V194, hV194⟩ : ∃ W, (w177).setCell ⟨B8, 9, none⟩ (.slice ax178 lx179 qx180) = W := ⟨_, rfl⟩
          have HXV194 : Hid (BoxS V194 B8 (⟨7, ⟨#[]⟩, ⟨#[]⟩, 0, y144.kind, y144.n, y144.name, ax138, lx139, qx140, ax155, lx156, qx157, ax178, lx179, qx180, X, Y⟩ : Sv).cells) := by rw [← hV194]; exact ((HXw177.out).setv 9 [.slice ax178 lx179 qx180] (⟨7, ⟨#[]⟩, ⟨#[]⟩, 0, y144.kind, y144.n, y144.name, ax138, lx139, qx140, ax155, lx156, qx157, ax178, lx179, qx180, X, Y⟩ : Sv).cells (by show 9 + 1 ≤ 11; decide) rfl)
          have HZV194 : Hid (BoxS V194 w.heap.size (sv0 0 0).cells) := by rw [← hV194]; exact ((HZw177.out).apart hrB 9 [.slice ax178 lx179 qx180])
          have HBV194 : Hid (But R w V194) := by rw [← hV194]; exact ((HBw177.out).sets (B := B8) (by omega) 9 [.slice ax178 lx179 qx180])
          have HTV194 : Hid (BoxS V194 (w.heap.size + 1) [.int .i64 ((1 : Nat) : Int), .string TX, .int .i64 (nn : Int), .int .i64 (aa : Int)]) := by rw [← hV194]; exact ((HTw177.out).apart htB 9 [.slice ax178 lx179 qx180])
          have uV194 : V194.cell? ⟨w.heap.size + 1, 1, none⟩ = some (.string TX) := HTV194.out.cell 1 rfl
          have HQV194 : Hid (Rq V194 R g cap ts fa191 true (ts.length - m175.length)) := by rw [← hV194]; exact ((HQw177.out).sets hBR hBg 9 [.slice ax178 lx179 qx180])
          have HRE148_V194 : Hid (ExsD V194 (Dk B8 V194) y144.of (.slice ax138 lx139 qx140)) := by rw [← hV194]; exact (ex_set HRE148_w177.out 9 [.slice ax178 lx179 qx180])
          have HRB165_V194 : Hid (StsD V194 (Dk B8 V194) y161 (.slice ax155 lx156 qx157)) := by rw [← hV194]; exact (ss_set HRB165_w177.out 9 [.slice ax178 lx179 qx180])
          have x0_V194 : V194.cell? ⟨B8, 0, none⟩ = some (.int .i64 (7)) := HXV194.out.cell 0 rfl
          have x1_V194 : V194.cell? ⟨B8, 1, none⟩ = some (.string (⟨#[]⟩)) := HXV194.out.cell 1 rfl
          have x2_V194 : V194.cell? ⟨B8, 2, none⟩ = some (.string (⟨#[]⟩)) := HXV194.out.cell 2 rfl
          have x3_V194 : V194.cell? ⟨B8, 3, none⟩ = some (.int .i64 (0)) := HXV194.out.cell 3 rfl
          have x4_V194 : V194.cell? ⟨B8, 4, none⟩ = some (.int .i64 (y144.kind)) := HXV194.out.cell 4 rfl
          have x5_V194 : V194.cell? ⟨B8, 5, none⟩ = some (.int .i64 (y144.n)) := HXV194.out.cell 5 rfl
          have x6_V194 : V194.cell? ⟨B8, 6, none⟩ = some (.string (y144.name)) := HXV194.out.cell 6 rfl
          have x7_V194 : V194.cell? ⟨B8, 7, none⟩ = some (.slice ax138 lx139 qx140) := HXV194.out.cell 7 rfl
          have x8_V194 : V194.cell? ⟨B8, 8, none⟩ = some (.slice ax155 lx156 qx157) := HXV194.out.cell 8 rfl
          have x9_V194 : V194.cell? ⟨B8, 9, none⟩ = some (.slice ax178 lx179 qx180) := HXV194.out.cell 9 rfl
          have x10_V194 : V194.cell? ⟨B8, 10, none⟩ = some (.complex .f64 X Y) := HXV194.out.cell 10 rfl
          have r0_V194 : V194.cell? ⟨w.heap.size, 0, none⟩ = some (.int .i64 (0)) := HZV194.out.cell 0 rfl
          have r1_V194 : V194.cell? ⟨w.heap.size, 1, none⟩ = some (.string (⟨#[]⟩)) := HZV194.out.cell 1 rfl
          have r2_V194 : V194.cell? ⟨w.heap.size, 2, none⟩ = some (.string (⟨#[]⟩)) := HZV194.out.cell 2 rfl
          have r3_V194 : V194.cell? ⟨w.heap.size, 3, none⟩ = some (.int .i64 (0)) := HZV194.out.cell 3 rfl
          have r4_V194 : V194.cell? ⟨w.heap.size, 4, none⟩ = some (.int .i64 (0)) := HZV194.out.cell 4 rfl
          have r5_V194 : V194.cell? ⟨w.heap.size, 5, none⟩ = some (.int .i64 (0)) := HZV194.out.cell 5 rfl
          have r6_V194 : V194.cell? ⟨w.heap.size, 6, none⟩ = some (.string (⟨#[]⟩)) := HZV194.out.cell 6 rfl
          have r7_V194 : V194.cell? ⟨w.heap.size, 7, none⟩ = some (.slice none 0 0) := HZV194.out.cell 7 rfl
          have r8_V194 : V194.cell? ⟨w.heap.size, 8, none⟩ = some (.slice none 0 0) := HZV194.out.cell 8 rfl
          have r9_V194 : V194.cell? ⟨w.heap.size, 9, none⟩ = some (.slice none 0 0) := HZV194.out.cell 9 rfl
          have r10_V194 : V194.cell? ⟨w.heap.size, 10, none⟩ = some (.complex .f64 0 0) := HZV194.out.cell 10 rfl
          have xf_V194 : ∀ j, V194.frozen? ⟨B8, j, none⟩ = false := HXV194.out.fz
          have rf_V194 : ∀ j, V194.frozen? ⟨w.heap.size, j, none⟩ = false := HZV194.out.fz
          have xl_V194 : B8 < V194.heap.size := HXV194.out.lt
          have rl_V194 : w.heap.size < V194.heap.size := HZV194.out.lt
          go_wp2_with fail
          obtain ⟨hO1, hO2⟩ := HPO193.out
          subst hO1 hO2
          refine reds_end (⟨7, ⟨#[]⟩, ⟨#[]⟩, 0, y144.kind, y144.n, y144.name, ax138, lx139, qx140, ax155, lx156, qx157, ax178, lx179, qx180, X, Y⟩ : Sv) rfl HZV194.out HBV194.out hRw HGW.out ?hsome (fun _ => ⟨fa191, HFA192.out, ?_⟩)
          case hsome => exact fun x hx => by cases hx
          exact HQV194.out
        | some y184 =>
          obtain ⟨hT, hq⟩ := H181.out.2.1 y184 rfl
          obtain ⟨b189, hbb⟩ : ∃ b, ts.length - m175.length = b := ⟨_, rfl⟩
          rw [hbb] at hq HSF183
          clear hbb
          have HXw177 : Hid (BoxS w177 B8 (⟨7, ⟨#[]⟩, ⟨#[]⟩, 0, y144.kind, y144.n, y144.name, ax138, lx139, qx140, ax155, lx156, qx157, none, 0, 0, X, Y⟩ : Sv).cells) := HXV173.out.but hbn hBR
          have HZw177 : Hid (BoxS w177 w.heap.size (sv0 0 0).cells) := HZV173.out.but hbn hrR
          have HBw177 : Hid (But R w w177) := HBV173.out.then hbn
          have HTw177 : Hid (BoxS w177 (w.heap.size + 1) [.int .i64 ((1 : Nat) : Int), .string TX, .int .i64 (nn : Int), .int .i64 (aa : Int)]) := HTV173.out.but hbn htR
          have HQw177 : Hid (Rq w177 R g cap ts b189 false bad) := hq
          have HRC188_w177 : Hid (StsD w177 (Dk B8 w177) y184 (.slice ax178 lx179 qx180)) := ss_new hT HXV173.out.lt
          have HRE148_w177 : Hid (ExsD w177 (Dk B8 w177) y144.of (.slice ax138 lx139 qx140)) := ex_but HRE148_V173.out hbn hRB
          have HRB165_w177 : Hid (StsD w177 (Dk B8 w177) y161 (.slice ax155 lx156 qx157)) := ss_but HRB165_V173.out hbn hRB
          clear hbn
          have HAL185 : Hid (Pp.Alive (left ts b189)) := by rw [HSF183.out.1]; exact HSF183.out.2
          have HLT186 : Hid (b189 < ts.length) := alive_lt HAL185.out
          have hP := HPO172.out
          rw [Pp.bind_some HP182.out, ← HSF183.out.1] at hP
          have HPO187 : Hid _ := hP
          clear hT hq hP
          clear x0_V173 x1_V173 x2_V173 x3_V173 x4_V173 x5_V173 x6_V173 x7_V173 x8_V173 x9_V173 x10_V173 r0_V173 r1_V173 r2_V173 r3_V173 r4_V173 r5_V173 r6_V173 r7_V173 r8_V173 r9_V173 r10_V173 xf_V173 rf_V173 xl_V173 rl_V173
          have x0_w177 : w177.cell? ⟨B8, 0, none⟩ = some (.int .i64 (7)) := HXw177.out.cell 0 rfl
          have x1_w177 : w177.cell? ⟨B8, 1, none⟩ = some (.string (⟨#[]⟩)) := HXw177.out.cell 1 rfl
          have x2_w177 : w177.cell? ⟨B8, 2, none⟩ = some (.string (⟨#[]⟩)) := HXw177.out.cell 2 rfl
          have x3_w177 : w177.cell? ⟨B8, 3, none⟩ = some (.int .i64 (0)) := HXw177.out.cell 3 rfl
          have x4_w177 : w177.cell? ⟨B8, 4, none⟩ = some (.int .i64 (y144.kind)) := HXw177.out.cell 4 rfl
          have x5_w177 : w177.cell? ⟨B8, 5, none⟩ = some (.int .i64 (y144.n)) := HXw177.out.cell 5 rfl
          have x6_w177 : w177.cell? ⟨B8, 6, none⟩ = some (.string (y144.name)) := HXw177.out.cell 6 rfl
          have x7_w177 : w177.cell? ⟨B8, 7, none⟩ = some (.slice ax138 lx139 qx140) := HXw177.out.cell 7 rfl
          have x8_w177 : w177.cell? ⟨B8, 8, none⟩ = some (.slice ax155 lx156 qx157) := HXw177.out.cell 8 rfl
          have x9_w177 : w177.cell? ⟨B8, 9, none⟩ = some (.slice none 0 0) := HXw177.out.cell 9 rfl
          have x10_w177 : w177.cell? ⟨B8, 10, none⟩ = some (.complex .f64 X Y) := HXw177.out.cell 10 rfl
          have r0_w177 : w177.cell? ⟨w.heap.size, 0, none⟩ = some (.int .i64 (0)) := HZw177.out.cell 0 rfl
          have r1_w177 : w177.cell? ⟨w.heap.size, 1, none⟩ = some (.string (⟨#[]⟩)) := HZw177.out.cell 1 rfl
          have r2_w177 : w177.cell? ⟨w.heap.size, 2, none⟩ = some (.string (⟨#[]⟩)) := HZw177.out.cell 2 rfl
          have r3_w177 : w177.cell? ⟨w.heap.size, 3, none⟩ = some (.int .i64 (0)) := HZw177.out.cell 3 rfl
          have r4_w177 : w177.cell? ⟨w.heap.size, 4, none⟩ = some (.int .i64 (0)) := HZw177.out.cell 4 rfl
          have r5_w177 : w177.cell? ⟨w.heap.size, 5, none⟩ = some (.int .i64 (0)) := HZw177.out.cell 5 rfl
          have r6_w177 : w177.cell? ⟨w.heap.size, 6, none⟩ = some (.string (⟨#[]⟩)) := HZw177.out.cell 6 rfl
          have r7_w177 : w177.cell? ⟨w.heap.size, 7, none⟩ = some (.slice none 0 0) := HZw177.out.cell 7 rfl
          have r8_w177 : w177.cell? ⟨w.heap.size, 8, none⟩ = some (.slice none 0 0) := HZw177.out.cell 8 rfl
          have r9_w177 : w177.cell? ⟨w.heap.size, 9, none⟩ = some (.slice none 0 0) := HZw177.out.cell 9 rfl
          have r10_w177 : w177.cell? ⟨w.heap.size, 10, none⟩ = some (.complex .f64 0 0) := HZw177.out.cell 10 rfl
          have xf_w177 : ∀ j, w177.frozen? ⟨B8, j, none⟩ = false := HXw177.out.fz
          have rf_w177 : ∀ j, w177.frozen? ⟨w.heap.size, j, none⟩ = false := HZw177.out.fz
          have xl_w177 : B8 < w177.heap.size := HXw177.out.lt
          have rl_w177 : w.heap.size < w177.heap.size := HZw177.out.lt
          obtain ⟨V190, hV190⟩ : ∃ W, (w177).setCell ⟨B8, 9, none⟩ (.slice ax178 lx179 qx180) = W := ⟨_, rfl⟩
          have HXV190 : Hid (BoxS V190 B8 (⟨7, ⟨#[]⟩, ⟨#[]⟩, 0, y144.kind, y144.n, y144.name, ax138, lx139, qx140, ax155, lx156, qx157, ax178, lx179, qx180, X, Y⟩ : Sv).cells) := by rw [← hV190]; exact ((HXw177.out).setv 9 [.slice ax178 lx179 qx180] (⟨7, ⟨#[]⟩, ⟨#[]⟩, 0, y144.kind, y144.n, y144.name, ax138, lx139, qx140, ax155, lx156, qx157, ax178, lx179, qx180, X, Y⟩ : Sv).cells (by show 9 + 1 ≤ 11; decide) rfl)
          have HZV190 : Hid (BoxS V190 w.heap.size (sv0 0 0).cells) := by rw [← hV190]; exact ((HZw177.out).apart hrB 9 [.slice ax178 lx179 qx180])
          have HBV190 : Hid (But R w V190) := by rw [← hV190]; exact ((HBw177.out).sets (B := B8) (by omega) 9 [.slice ax178 lx179 qx180])
          have HTV190 : Hid (BoxS V190 (w.heap.size + 1) [.int .i64 ((1 : Nat) : Int), .string TX, .int .i64 (nn : Int), .int .i64 (aa : Int)]) := by rw [← hV190]; exact ((HTw177.out).apart htB 9 [.slice ax178 lx179 qx180])
          have uV190 : V190.cell? ⟨w.heap.size + 1, 1, none⟩ = some (.string TX) := HTV190.out.cell 1 rfl
          have HQV190 : Hid (Rq V190 R g cap ts b189 false bad) := by rw [← hV190]; exact ((HQw177.out).sets hBR hBg 9 [.slice ax178 lx179 qx180])
          have HRE148_V190 : Hid (ExsD V190 (Dk B8 V190) y144.of (.slice ax138 lx139 qx140)) := by rw [← hV190]; exact (ex_set HRE148_w177.out 9 [.slice ax178 lx179 qx180])
          have HRB165_V190 : Hid (StsD V190 (Dk B8 V190) y161 (.slice ax155 lx156 qx157)) := by rw [← hV190]; exact (ss_set HRB165_w177.out 9 [.slice ax178 lx179 qx180])
          have HRC188_V190 : Hid (StsD V190 (Dk B8 V190) y184 (.slice ax178 lx179 qx180)) := by rw [← hV190]; exact (ss_set HRC188_w177.out 9 [.slice ax178 lx179 qx180])
          have x0_V190 : V190.cell? ⟨B8, 0, none⟩ = some (.int .i64 (7)) := HXV190.out.cell 0 rfl
          have x1_V190 : V190.cell? ⟨B8, 1, none⟩ = some (.string (⟨#[]⟩)) := HXV190.out.cell 1 rfl
          have x2_V190 : V190.cell? ⟨B8, 2, none⟩ = some (.string (⟨#[]⟩)) := HXV190.out.cell 2 rfl
          have x3_V190 : V190.cell? ⟨B8, 3, none⟩ = some (.int .i64 (0)) := HXV190.out.cell 3 rfl
          have x4_V190 : V190.cell? ⟨B8, 4, none⟩ = some (.int .i64 (y144.kind)) := HXV190.out.cell 4 rfl
          have x5_V190 : V190.cell? ⟨B8, 5, none⟩ = some (.int .i64 (y144.n)) := HXV190.out.cell 5 rfl
          have x6_V190 : V190.cell? ⟨B8, 6, none⟩ = some (.string (y144.name)) := HXV190.out.cell 6 rfl
          have x7_V190 : V190.cell? ⟨B8, 7, none⟩ = some (.slice ax138 lx139 qx140) := HXV190.out.cell 7 rfl
          have x8_V190 : V190.cell? ⟨B8, 8, none⟩ = some (.slice ax155 lx156 qx157) := HXV190.out.cell 8 rfl
          have x9_V190 : V190.cell? ⟨B8, 9, none⟩ = some (.slice ax178 lx179 qx180) := HXV190.out.cell 9 rfl
          have x10_V190 : V190.cell? ⟨B8, 10, none⟩ = some (.complex .f64 X Y) := HXV190.out.cell 10 rfl
          have r0_V190 : V190.cell? ⟨w.heap.size, 0, none⟩ = some (.int .i64 (0)) := HZV190.out.cell 0 rfl
          have r1_V190 : V190.cell? ⟨w.heap.size, 1, none⟩ = some (.string (⟨#[]⟩)) := HZV190.out.cell 1 rfl
          have r2_V190 : V190.cell? ⟨w.heap.size, 2, none⟩ = some (.string (⟨#[]⟩)) := HZV190.out.cell 2 rfl
          have r3_V190 : V190.cell? ⟨w.heap.size, 3, none⟩ = some (.int .i64 (0)) := HZV190.out.cell 3 rfl
          have r4_V190 : V190.cell? ⟨w.heap.size, 4, none⟩ = some (.int .i64 (0)) := HZV190.out.cell 4 rfl
          have r5_V190 : V190.cell? ⟨w.heap.size, 5, none⟩ = some (.int .i64 (0)) := HZV190.out.cell 5 rfl
          have r6_V190 : V190.cell? ⟨w.heap.size, 6, none⟩ = some (.string (⟨#[]⟩)) := HZV190.out.cell 6 rfl
          have r7_V190 : V190.cell? ⟨w.heap.size, 7, none⟩ = some (.slice none 0 0) := HZV190.out.cell 7 rfl
          have r8_V190 : V190.cell? ⟨w.heap.size, 8, none⟩ = some (.slice none 0 0) := HZV190.out.cell 8 rfl
          have r9_V190 : V190.cell? ⟨w.heap.size, 9, none⟩ = some (.slice none 0 0) := HZV190.out.cell 9 rfl
          have r10_V190 : V190.cell? ⟨w.heap.size, 10, none⟩ = some (.complex .f64 0 0) := HZV190.out.cell 10 rfl
          have xf_V190 : ∀ j, V190.frozen? ⟨B8, j, none⟩ = false := HXV190.out.fz
          have rf_V190 : ∀ j, V190.frozen? ⟨w.heap.size, j, none⟩ = false := HZV190.out.fz
          have xl_V190 : B8 < V190.heap.size := HXV190.out.lt
          have rl_V190 : w.heap.size < V190.heap.size := HZV190.out.lt
          go_wp2_with fail
          have hP := HPO187.out
          simp only [Pp.ret, Prod.mk.injEq] at hP
          obtain ⟨hO1, hO2⟩ := hP
          subst hO1 hO2
          refine reds_end (⟨7, ⟨#[]⟩, ⟨#[]⟩, 0, y144.kind, y144.n, y144.name, ax138, lx139, qx140, ax155, lx156, qx157, ax178, lx179, qx180, X, Y⟩ : Sv) rfl HZV190.out HBV190.out hRw HGW.out (fun x hx => ?_) (fun hx => by cases hx)
          cases hx
          refine ⟨⟨rfl, rfl, rfl, rfl, rfl, rfl, rfl, rfl, rfl, ex_fin HRE148_V190.out (by omega), ss_fin HRB165_V190.out (by omega), ss_fin HRC188_V190.out (by omega)⟩, ?_⟩
          rw [show ts.length - (left ts b189).length = b189 by rw [left_len]; have := HLT186.out; omega]
          exact HQV190.out
      | false =>
        have H196 : Hid (isWd Pp.tElse (Px.hd (left ts b166)) = false) := hnm
        have NM : Hid (Calls Try.prog 53 #[.pointer (some ⟨R, 0, none⟩), .string ⟨#[101, 108, 115, 101]⟩] V167 fun e w' => e = .returned (.bool false) ∧ Kept V167 w') := by
          have := rword_any HQV167.out HLT163.out ⟨#[101, 108, 115, 101]⟩
          rw [show isWd (⟨#[101, 108, 115, 101]⟩ : ByteArray).data.toList (Px.hd (left ts b166)) = isWd Pp.tElse (Px.hd (left ts b166)) from rfl, hnm] at this
          exact this
        go_wp2_with fail
        refine Calls.mono NM.out ?_
        rintro e w195 ⟨rfl, kk⟩
        have hbn : But R V167 w195 := But.of kk
        clear NM
        have HXw195 : Hid (BoxS w195 B8 (⟨7, ⟨#[]⟩, ⟨#[]⟩, 0, y144.kind, y144.n, y144.name, ax138, lx139, qx140, ax155, lx156, qx157, none, 0, 0, X, Y⟩ : Sv).cells) := HXV167.out.but hbn hBR
        have HZw195 : Hid (BoxS w195 w.heap.size (sv0 0 0).cells) := HZV167.out.but hbn hrR
        have HBw195 : Hid (But R w w195) := HBV167.out.then hbn
        have HTw195 : Hid (BoxS w195 (w.heap.size + 1) [.int .i64 ((1 : Nat) : Int), .string TX, .int .i64 (nn : Int), .int .i64 (aa : Int)]) := HTV167.out.but hbn htR
        have HQw195 : Hid (Rq w195 R g cap ts b166 false bad) := HQV167.out.kept kk
        have HRE148_w195 : Hid (ExsD w195 (Dk B8 w195) y144.of (.slice ax138 lx139 qx140)) := ex_but HRE148_V167.out hbn hRB
        have HRB165_w195 : Hid (StsD w195 (Dk B8 w195) y161 (.slice ax155 lx156 qx157)) := ss_but HRB165_V167.out hbn hRB
        clear hbn
        clear kk
        clear x0_w154 x1_w154 x2_w154 x3_w154 x4_w154 x5_w154 x6_w154 x7_w154 x8_w154 x9_w154 x10_w154 r0_w154 r1_w154 r2_w154 r3_w154 r4_w154 r5_w154 r6_w154 r7_w154 r8_w154 r9_w154 r10_w154 xf_w154 rf_w154 xl_w154 rl_w154
        have hP := HPO164.out
        rw [bind_other_no (by have := wd_text HOK.out HLT163.out (x := Pp.tElse) (by decide); rw [H196.out] at this; exact of_decide_eq_false this.symm)] at hP
        have HPO197 : Hid _ := hP
        clear hnm hP
        have x0_w195 : w195.cell? ⟨B8, 0, none⟩ = some (.int .i64 (7)) := HXw195.out.cell 0 rfl
        have x1_w195 : w195.cell? ⟨B8, 1, none⟩ = some (.string (⟨#[]⟩)) := HXw195.out.cell 1 rfl
        have x2_w195 : w195.cell? ⟨B8, 2, none⟩ = some (.string (⟨#[]⟩)) := HXw195.out.cell 2 rfl
        have x3_w195 : w195.cell? ⟨B8, 3, none⟩ = some (.int .i64 (0)) := HXw195.out.cell 3 rfl
        have x4_w195 : w195.cell? ⟨B8, 4, none⟩ = some (.int .i64 (y144.kind)) := HXw195.out.cell 4 rfl
        have x5_w195 : w195.cell? ⟨B8, 5, none⟩ = some (.int .i64 (y144.n)) := HXw195.out.cell 5 rfl
        have x6_w195 : w195.cell? ⟨B8, 6, none⟩ = some (.string (y144.name)) := HXw195.out.cell 6 rfl
        have x7_w195 : w195.cell? ⟨B8, 7, none⟩ = some (.slice ax138 lx139 qx140) := HXw195.out.cell 7 rfl
        have x8_w195 : w195.cell? ⟨B8, 8, none⟩ = some (.slice ax155 lx156 qx157) := HXw195.out.cell 8 rfl
        have x9_w195 : w195.cell? ⟨B8, 9, none⟩ = some (.slice none 0 0) := HXw195.out.cell 9 rfl
        have x10_w195 : w195.cell? ⟨B8, 10, none⟩ = some (.complex .f64 X Y) := HXw195.out.cell 10 rfl
        have r0_w195 : w195.cell? ⟨w.heap.size, 0, none⟩ = some (.int .i64 (0)) := HZw195.out.cell 0 rfl
        have r1_w195 : w195.cell? ⟨w.heap.size, 1, none⟩ = some (.string (⟨#[]⟩)) := HZw195.out.cell 1 rfl
        have r2_w195 : w195.cell? ⟨w.heap.size, 2, none⟩ = some (.string (⟨#[]⟩)) := HZw195.out.cell 2 rfl
        have r3_w195 : w195.cell? ⟨w.heap.size, 3, none⟩ = some (.int .i64 (0)) := HZw195.out.cell 3 rfl
        have r4_w195 : w195.cell? ⟨w.heap.size, 4, none⟩ = some (.int .i64 (0)) := HZw195.out.cell 4 rfl
        have r5_w195 : w195.cell? ⟨w.heap.size, 5, none⟩ = some (.int .i64 (0)) := HZw195.out.cell 5 rfl
        have r6_w195 : w195.cell? ⟨w.heap.size, 6, none⟩ = some (.string (⟨#[]⟩)) := HZw195.out.cell 6 rfl
        have r7_w195 : w195.cell? ⟨w.heap.size, 7, none⟩ = some (.slice none 0 0) := HZw195.out.cell 7 rfl
        have r8_w195 : w195.cell? ⟨w.heap.size, 8, none⟩ = some (.slice none 0 0) := HZw195.out.cell 8 rfl
        have r9_w195 : w195.cell? ⟨w.heap.size, 9, none⟩ = some (.slice none 0 0) := HZw195.out.cell 9 rfl
        have r10_w195 : w195.cell? ⟨w.heap.size, 10, none⟩ = some (.complex .f64 0 0) := HZw195.out.cell 10 rfl
        have xf_w195 : ∀ j, w195.frozen? ⟨B8, j, none⟩ = false := HXw195.out.fz
        have rf_w195 : ∀ j, w195.frozen? ⟨w.heap.size, j, none⟩ = false := HZw195.out.fz
        have xl_w195 : B8 < w195.heap.size := HXw195.out.lt
        have rl_w195 : w.heap.size < w195.heap.size := HZw195.out.lt
        have x0_w195 : w195.cell? ⟨B8, 0, none⟩ = some (.int .i64 (7)) := HXw195.out.cell 0 rfl
        have x1_w195 : w195.cell? ⟨B8, 1, none⟩ = some (.string (⟨#[]⟩)) := HXw195.out.cell 1 rfl
        have x2_w195 : w195.cell? ⟨B8, 2, none⟩ = some (.string (⟨#[]⟩)) := HXw195.out.cell 2 rfl
        have x3_w195 : w195.cell? ⟨B8, 3, none⟩ = some (.int .i64 (0)) := HXw195.out.cell 3 rfl
        have x4_w195 : w195.cell? ⟨B8, 4, none⟩ = some (.int .i64 (y144.kind)) := HXw195.out.cell 4 rfl
        have x5_w195 : w195.cell? ⟨B8, 5, none⟩ = some (.int .i64 (y144.n)) := HXw195.out.cell 5 rfl
        have x6_w195 : w195.cell? ⟨B8, 6, none⟩ = some (.string (y144.name)) := HXw195.out.cell 6 rfl
        have x7_w195 : w195.cell? ⟨B8, 7, none⟩ = some (.slice ax138 lx139 qx140) := HXw195.out.cell 7 rfl
        have x8_w195 : w195.cell? ⟨B8, 8, none⟩ = some (.slice ax155 lx156 qx157) := HXw195.out.cell 8 rfl
        have x9_w195 : w195.cell? ⟨B8, 9, none⟩ = some (.slice none 0 0) := HXw195.out.cell 9 rfl
        have x10_w195 : w195.cell? ⟨B8, 10, none⟩ = some (.complex .f64 X Y) := HXw195.out.cell 10 rfl
        have r0_w195 : w195.cell? ⟨w.heap.size, 0, none⟩ = some (.int .i64 (0)) := HZw195.out.cell 0 rfl
        have r1_w195 : w195.cell? ⟨w.heap.size, 1, none⟩ = some (.string (⟨#[]⟩)) := HZw195.out.cell 1 rfl
        have r2_w195 : w195.cell? ⟨w.heap.size, 2, none⟩ = some (.string (⟨#[]⟩)) := HZw195.out.cell 2 rfl
        have r3_w195 : w195.cell? ⟨w.heap.size, 3, none⟩ = some (.int .i64 (0)) := HZw195.out.cell 3 rfl
        have r4_w195 : w195.cell? ⟨w.heap.size, 4, none⟩ = some (.int .i64 (0)) := HZw195.out.cell 4 rfl
        have r5_w195 : w195.cell? ⟨w.heap.size, 5, none⟩ = some (.int .i64 (0)) := HZw195.out.cell 5 rfl
        have r6_w195 : w195.cell? ⟨w.heap.size, 6, none⟩ = some (.string (⟨#[]⟩)) := HZw195.out.cell 6 rfl
        have r7_w195 : w195.cell? ⟨w.heap.size, 7, none⟩ = some (.slice none 0 0) := HZw195.out.cell 7 rfl
        have r8_w195 : w195.cell? ⟨w.heap.size, 8, none⟩ = some (.slice none 0 0) := HZw195.out.cell 8 rfl
        have r9_w195 : w195.cell? ⟨w.heap.size, 9, none⟩ = some (.slice none 0 0) := HZw195.out.cell 9 rfl
        have r10_w195 : w195.cell? ⟨w.heap.size, 10, none⟩ = some (.complex .f64 0 0) := HZw195.out.cell 10 rfl
        have xf_w195 : ∀ j, w195.frozen? ⟨B8, j, none⟩ = false := HXw195.out.fz
        have rf_w195 : ∀ j, w195.frozen? ⟨w.heap.size, j, none⟩ = false := HZw195.out.fz
        have xl_w195 : B8 < w195.heap.size := HXw195.out.lt
        have rl_w195 : w.heap.size < w195.heap.size := HZw195.out.lt
        go_wp2_with fail
        have hP := HPO197.out
        simp only [Pp.ret, Prod.mk.injEq] at hP
        obtain ⟨hO1, hO2⟩ := hP
        subst hO1 hO2
        refine reds_end (⟨7, ⟨#[]⟩, ⟨#[]⟩, 0, y144.kind, y144.n, y144.name, ax138, lx139, qx140, ax155, lx156, qx157, none, 0, 0, X, Y⟩ : Sv) rfl HZw195.out HBw195.out hRw HGW.out (fun x hx => ?_) (fun hx => by cases hx)
        cases hx
        refine ⟨⟨rfl, rfl, rfl, rfl, rfl, rfl, rfl, rfl, rfl, ex_fin HRE148_w195.out (by omega), ss_fin HRB165_w195.out (by omega), StsD.nil' _ _⟩, ?_⟩
        rw [show ts.length - (left ts b166).length = b166 by rw [left_len]; have := HLT163.out; omega]
        exact HQw195.out
end Go.Proofs.Ytnfkjmafhaecgaa
