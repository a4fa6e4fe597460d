/- Ss -/
import Derived.Test.YtnfkjmafhaecgaaYSa

namespace Go.Proofs.Ytnfkjmafhaecgaa
open Go.RowKit
attribute [local go_sem] run_store_complex
set_option maxRecDepth 100000 in
set_option maxHeartbeats 8000000 in
theorem rstmt_send (deep : Int) (blk : Pp.Pl → Pp.R (List St)) {R g cap : Nat} {s : ByteArray} {ts : List Lx.Tk} {a bad : Nat} {w : World} (h : Rq w R g cap ts a false bad) (hal : Pp.Alive (left ts a)) (hok : TkOk s ts) (o : Option St) (m : List Lx.Core) (htx : (Px.hd (left ts a)).2.1 = [115, 101, 110, 100]) (hp : Pp.stmt (plOf s ts) (blk (plOf s ts)) (left ts a) = (o, m)) :
    Calls Try.prog 62 #[.pointer (some ⟨R, 0, none⟩), .string s, .int .i64 deep] w fun e w' => RedS R g cap ts bad w o m e w' := by
  have ha := alive_lt hal
  have HR : Hid (Rq w R g cap ts a false bad) := h
  have hRw := h.rlt
  have hgw := h.lt
  have c0 := h.c0
  have c1 := h.c1
  have z1 := h.z 1
  have hf := h.few
  have hwr : IntKind.i64.wrap ((a : Int) + 1) = (a : Int) + 1 := by rw [IntKind.wrap_i64]; omega
  have hhd := hd_in ts a ha
  rw [hhd] at htx
  replace htx : Hid (ts[a].text = [115, 101, 110, 100]) := htx
  have hmem := List.getElem_mem ha
  have hw1 : ts[a].kind = 1 → Lx.isWord ts[a].text = true := hok.fit _ hmem
  have hkd : Hid (ts[a].kind = kindOf ts[a].text) := hok.kd _ hmem
  have HPL : Hid (∀ W, Calls Try.prog 50 #[.string s, .int .i64 (ts[a].at' : Int)] W fun e w' => e = .returned (.complex .f64 (lineW s ts[a].at') (colW s ts[a].at')) ∧ w' = W) := fun W => place_in s _ hok.sz (hok.at' _ hmem) W
  have hpl : plOf s ts (left ts a).length = (lineW s ts[a].at', colW s ts[a].at') := plOf_at s ts a ha
  obtain ⟨t0, t1, t2, t3⟩ := h.tok a ha
  have hai : (a : Int) < (ts.length : Int) := by omega
  have HA : Hid (a < ts.length) := ha
  have HAL : Hid (Pp.Alive (left ts a)) := hal
  have HOK : Hid (TkOk s ts) := hok
  have HHD : Hid _ := hhd
  have HPP : Hid _ := hpl
  unfold Pp.stmt at hp
  rw [hpl, hhd] at hp
  generalize lineW s ts[a].at' = X at *
  generalize colW s ts[a].at' = Y at *
  generalize ts[a].kind = kd at *
  generalize ts[a].text = tx at *
  generalize ts[a].n = nn at *
  generalize ts[a].at' = aa at *
  obtain ⟨N, hN⟩ : ∃ N, ts.length = N := ⟨_, rfl⟩
  have HN : Hid (ts.length = N) := hN
  rw [hN] at c0 hf hai
  clear h hal hok ha hN hmem hpl
  go_enter Try.func62, Try.ntmps62
  go_wp2_with fail
  go_region
  obtain ⟨W1, hW1⟩ : ∃ W1, ((sz w).alloc (.cells #[.int .i64 (kd : Int), .string (Px.ba tx), .int .i64 (nn : Int), .int .i64 (aa : Int)] 99)).drew = W1 := ⟨_, rfl⟩
  have hkw : Kept w (sz w) := (Kept.refl _).al _
  have hk1 : Kept (sz w) W1 := by rw [← hW1]; exact ((Kept.refl _).al _).dr
  have KW1 : Hid (Kept w W1) := hkw.then hk1
  have hbz : BoxS W1 w.heap.size (sv0 0 0).cells := (box_of (heap_alloc_new w _)).kept hk1
  have hbt : BoxS W1 (w.heap.size + 1) [.int .i64 (kd : Int), .string (Px.ba tx), .int .i64 (nn : Int), .int .i64 (aa : Int)] := by
    have h1 : BoxS ((sz w).alloc (.cells #[.int .i64 (kd : Int), .string (Px.ba tx), .int .i64 (nn : Int), .int .i64 (aa : Int)] 99)) (sz w).heap.size [.int .i64 (kd : Int), .string (Px.ba tx), .int .i64 (nn : Int), .int .i64 (aa : Int)] := box_of (heap_alloc_new (sz w) _)
    rw [show (sz w).heap.size = w.heap.size + 1 by simp] at h1
    rw [← hW1]
    exact h1.kept (Kept.refl _).dr
  have u3 : W1.cell? ⟨w.heap.size + 1, 3, none⟩ = some (.int .i64 (aa : Int)) := hbt.cell 3 rfl
  have hlt1 : w.heap.size + 1 < W1.heap.size := hbt.lt
  rw [hW1]
  clear hW1 hk1 hkw c0 t0 t1 t2 t3
  go_wp2_with fail
  refine (HPL.out _).mono ?_
  rintro e W1 ⟨rfl, rfl⟩
  obtain ⟨B8, hB8⟩ : ∃ B, W1.heap.size = B := ⟨_, rfl⟩
  obtain ⟨W2, hW2⟩ : ∃ W, W1.alloc (.cells #[.int .i64 0, .string ⟨#[]⟩, .string ⟨#[]⟩, .int .i64 0, .int .i64 0, .int .i64 0, .string ⟨#[]⟩, .slice none 0 0, .slice none 0 0, .slice none 0 0, .complex .f64 X Y] 46) = W := ⟨_, rfl⟩
  have hk2 : Kept W1 W2 := by rw [← hW2]; exact (Kept.refl _).al _
  have KW2 : Hid (Kept w W2) := KW1.out.then hk2
  have HQ2 : Hid (Rq W2 R g cap ts a false bad) := HR.out.kept KW2.out
  have hx : BoxS W2 B8 (⟨0, ⟨#[]⟩, ⟨#[]⟩, 0, 0, 0, ⟨#[]⟩, none, 0, 0, none, 0, 0, none, 0, 0, X, Y⟩ : Sv).cells := by rw [← hW2, ← hB8]; exact box_of (heap_alloc_new W1 _)
  have HXW2 : Hid (BoxS W2 B8 (⟨0, ⟨#[]⟩, ⟨#[]⟩, 0, 0, 0, ⟨#[]⟩, none, 0, 0, none, 0, 0, none, 0, 0, X, Y⟩ : Sv).cells) := hx
  have hzz : BoxS W2 w.heap.size (sv0 0 0).cells := hbz.kept hk2
  have HZW2 : Hid (BoxS W2 w.heap.size (sv0 0 0).cells) := hzz
  have x0 : W2.cell? ⟨B8, 0, none⟩ = some (.int .i64 (0)) := hx.cell 0 rfl
  have x1 : W2.cell? ⟨B8, 1, none⟩ = some (.string (⟨#[]⟩)) := hx.cell 1 rfl
  have x2 : W2.cell? ⟨B8, 2, none⟩ = some (.string (⟨#[]⟩)) := hx.cell 2 rfl
  have x3 : W2.cell? ⟨B8, 3, none⟩ = some (.int .i64 (0)) := hx.cell 3 rfl
  have x4 : W2.cell? ⟨B8, 4, none⟩ = some (.int .i64 (0)) := hx.cell 4 rfl
  have x5 : W2.cell? ⟨B8, 5, none⟩ = some (.int .i64 (0)) := hx.cell 5 rfl
  have x6 : W2.cell? ⟨B8, 6, none⟩ = some (.string (⟨#[]⟩)) := hx.cell 6 rfl
  have x7 : W2.cell? ⟨B8, 7, none⟩ = some (.slice none 0 0) := hx.cell 7 rfl
  have x8 : W2.cell? ⟨B8, 8, none⟩ = some (.slice none 0 0) := hx.cell 8 rfl
  have x9 : W2.cell? ⟨B8, 9, none⟩ = some (.slice none 0 0) := hx.cell 9 rfl
  have x10 : W2.cell? ⟨B8, 10, none⟩ = some (.complex .f64 X Y) := hx.cell 10 rfl
  have r0 : W2.cell? ⟨w.heap.size, 0, none⟩ = some (.int .i64 (0)) := hzz.cell 0 rfl
  have r1 : W2.cell? ⟨w.heap.size, 1, none⟩ = some (.string (⟨#[]⟩)) := hzz.cell 1 rfl
  have r2 : W2.cell? ⟨w.heap.size, 2, none⟩ = some (.string (⟨#[]⟩)) := hzz.cell 2 rfl
  have r3 : W2.cell? ⟨w.heap.size, 3, none⟩ = some (.int .i64 (0)) := hzz.cell 3 rfl
  have r4 : W2.cell? ⟨w.heap.size, 4, none⟩ = some (.int .i64 (0)) := hzz.cell 4 rfl
  have r5 : W2.cell? ⟨w.heap.size, 5, none⟩ = some (.int .i64 (0)) := hzz.cell 5 rfl
  have r6 : W2.cell? ⟨w.heap.size, 6, none⟩ = some (.string (⟨#[]⟩)) := hzz.cell 6 rfl
  have r7 : W2.cell? ⟨w.heap.size, 7, none⟩ = some (.slice none 0 0) := hzz.cell 7 rfl
  have r8 : W2.cell? ⟨w.heap.size, 8, none⟩ = some (.slice none 0 0) := hzz.cell 8 rfl
  have r9 : W2.cell? ⟨w.heap.size, 9, none⟩ = some (.slice none 0 0) := hzz.cell 9 rfl
  have r10 : W2.cell? ⟨w.heap.size, 10, none⟩ = some (.complex .f64 0 0) := hzz.cell 10 rfl
  have xf : ∀ j, W2.frozen? ⟨B8, j, none⟩ = false := hx.fz
  have rf : ∀ j, W2.frozen? ⟨w.heap.size, j, none⟩ = false := hzz.fz
  have xl : B8 < W2.heap.size := hx.lt
  have rl : w.heap.size < W2.heap.size := hzz.lt
  clear hx hzz
  have htk : BoxS W2 (w.heap.size + 1) [.int .i64 (kd : Int), .string (Px.ba tx), .int .i64 (nn : Int), .int .i64 (aa : Int)] := hbt.kept hk2
  have HTW2 : Hid (BoxS W2 (w.heap.size + 1) [.int .i64 (kd : Int), .string (Px.ba tx), .int .i64 (nn : Int), .int .i64 (aa : Int)]) := htk
  have u0 : W2.cell? ⟨w.heap.size + 1, 0, none⟩ = some (.int .i64 (kd : Int)) := htk.cell 0 rfl
  have u1 : W2.cell? ⟨w.heap.size + 1, 1, none⟩ = some (.string (Px.ba tx)) := htk.cell 1 rfl
  clear htk
  have hR2 := HQ2.out.rlt
  replace c1 := HQ2.out.c1
  replace z1 := HQ2.out.z 1
  have hBR : B8 ≠ R := by omega
  have hBg : B8 ≠ g := by omega
  have hBw : w.heap.size + 1 < B8 := by omega
  have hrR : w.heap.size ≠ R := by omega
  have htR : w.heap.size + 1 ≠ R := by omega
  have hrB : w.heap.size ≠ B8 := by omega
  have htB : w.heap.size + 1 ≠ B8 := by omega
  have HGW : Hid (g < w.heap.size) := hgw
  have LF : Hid (ts.length - (left ts a).length = a) := by show _ = _; rw [left_len]; have := HA.out; omega
  clear hbz hbt u3 hk2 hgw hlt1
  have h1 : kd = 1 := by rw [hkd.out, htx.out]; decide
  have hal2 : Pp.Alive (left ts (a + 1)) := by
    have := HAL.out.tail (.inl (by rw [hhd, h1]; show (1 : Nat) ≠ 4; decide))
    rwa [left_tail] at this
  have HAL2 : Hid (Pp.Alive (left ts (a + 1))) := hal2
  have HA2 : Hid (a + 1 < ts.length) := alive_lt hal2
  obtain ⟨W3, hW3⟩ : ∃ W, W2.setCell ⟨R, 1, none⟩ (.int .i64 ((a : Int) + 1)) = W := ⟨_, rfl⟩
  have hq3 := HQ2.out.at' (a + 1) (Nat.le_of_lt HA2.out)
  rw [show ((a + 1 : Nat) : Int) = (a : Int) + 1 by omega, hW3] at hq3
  have HQW3 : Hid (Rq W3 R g cap ts (a + 1) false bad) := hq3
  have hb23 : But R W2 W3 := by rw [← hW3]; exact (But.refl _ _).set _ _
  have HBW3 : Hid (But R w W3) := (But.of KW2.out).then hb23
  have HXW3 : Hid (BoxS W3 B8 (⟨0, ⟨#[]⟩, ⟨#[]⟩, 0, 0, 0, ⟨#[]⟩, none, 0, 0, none, 0, 0, none, 0, 0, X, Y⟩ : Sv).cells) := HXW2.out.but hb23 hBR
  have HZW3 : Hid (BoxS W3 w.heap.size (sv0 0 0).cells) := HZW2.out.but hb23 hrR
  have HTW3 : Hid (BoxS W3 (w.heap.size + 1) [.int .i64 (kd : Int), .string (Px.ba tx), .int .i64 (nn : Int), .int .i64 (aa : Int)]) := HTW2.out.but hb23 htR
  subst h1
  clear hq3 hb23 hal2 hw1 x0 x1 x2 x3 x4 x5 x6 x7 x8 x9 x10 r0 r1 r2 r3 r4 r5 r6 r7 r8 r9 r10 xf rf xl rl
  have htx1 := htx.out
  subst htx1
  clear htx
  have hP : Pp.bind Pp.name (fun a => Pp.bind Px.read fun e => Pp.ret (St.mk 4 (Px.ba a) Px.e0 0 e [] [] X Y)) (left ts (a + 1)) = (o, m) := by
    have : Pp.behind (blk (plOf s ts)) 4 (X, Y) (left ts a).tail = (o, m) := hp
    rw [left_tail] at this
    exact this
  have HPO0 : Hid _ := hP
  have hRB : R < B8 := by omega
  clear hp hP hhd hkd
  have e0 : ((Px.ba [115, 101, 110, 100]).toList == [108, 111, 99, 107]) = false := by rw [show (Px.ba [115, 101, 110, 100]).toList = [115, 101, 110, 100] by rw [toList_data]; rfl]; decide
  have e1 : ((Px.ba [115, 101, 110, 100]).toList == [117, 110, 108, 111, 99, 107]) = false := by rw [show (Px.ba [115, 101, 110, 100]).toList = [115, 101, 110, 100] by rw [toList_data]; rfl]; decide
  have e2 : ((Px.ba [115, 101, 110, 100]).toList == [103, 111, 116, 111]) = false := by rw [show (Px.ba [115, 101, 110, 100]).toList = [115, 101, 110, 100] by rw [toList_data]; rfl]; decide
  have e3 : ((Px.ba [115, 101, 110, 100]).toList == [108, 97, 98, 101, 108]) = false := by rw [show (Px.ba [115, 101, 110, 100]).toList = [115, 101, 110, 100] by rw [toList_data]; rfl]; decide
  have e4 : ((Px.ba [115, 101, 110, 100]).toList == [115, 101, 110, 100]) = true := by rw [show (Px.ba [115, 101, 110, 100]).toList = [115, 101, 110, 100] by rw [toList_data]; rfl]; decide
  have e5 : ((Px.ba [115, 101, 110, 100]).toList == [114, 101, 99, 118]) = false := by rw [show (Px.ba [115, 101, 110, 100]).toList = [115, 101, 110, 100] by rw [toList_data]; rfl]; decide
  have e6 : ((Px.ba [115, 101, 110, 100]).toList == [112, 114, 105, 110, 116]) = false := by rw [show (Px.ba [115, 101, 110, 100]).toList = [115, 101, 110, 100] by rw [toList_data]; rfl]; decide
  have e7 : ((Px.ba [115, 101, 110, 100]).toList == [105, 102]) = false := by rw [show (Px.ba [115, 101, 110, 100]).toList = [115, 101, 110, 100] by rw [toList_data]; rfl]; decide
  have e8 : ((Px.ba [115, 101, 110, 100]).toList == [114, 101, 112, 101, 97, 116]) = false := by rw [show (Px.ba [115, 101, 110, 100]).toList = [115, 101, 110, 100] by rw [toList_data]; rfl]; decide
  generalize Px.ba [115, 101, 110, 100] = TX at *
  replace u1 : W3.cell? ⟨w.heap.size + 1, 1, none⟩ = some (.string TX) := HTW3.out.cell 1 rfl
  have x0_W3 : W3.cell? ⟨B8, 0, none⟩ = some (.int .i64 (0)) := HXW3.out.cell 0 rfl
  have x1_W3 : W3.cell? ⟨B8, 1, none⟩ = some (.string (⟨#[]⟩)) := HXW3.out.cell 1 rfl
  have x2_W3 : W3.cell? ⟨B8, 2, none⟩ = some (.string (⟨#[]⟩)) := HXW3.out.cell 2 rfl
  have x3_W3 : W3.cell? ⟨B8, 3, none⟩ = some (.int .i64 (0)) := HXW3.out.cell 3 rfl
  have x4_W3 : W3.cell? ⟨B8, 4, none⟩ = some (.int .i64 (0)) := HXW3.out.cell 4 rfl
  have x5_W3 : W3.cell? ⟨B8, 5, none⟩ = some (.int .i64 (0)) := HXW3.out.cell 5 rfl
  have x6_W3 : W3.cell? ⟨B8, 6, none⟩ = some (.string (⟨#[]⟩)) := HXW3.out.cell 6 rfl
  have x7_W3 : W3.cell? ⟨B8, 7, none⟩ = some (.slice none 0 0) := HXW3.out.cell 7 rfl
  have x8_W3 : W3.cell? ⟨B8, 8, none⟩ = some (.slice none 0 0) := HXW3.out.cell 8 rfl
  have x9_W3 : W3.cell? ⟨B8, 9, none⟩ = some (.slice none 0 0) := HXW3.out.cell 9 rfl
  have x10_W3 : W3.cell? ⟨B8, 10, none⟩ = some (.complex .f64 X Y) := HXW3.out.cell 10 rfl
  have r0_W3 : W3.cell? ⟨w.heap.size, 0, none⟩ = some (.int .i64 (0)) := HZW3.out.cell 0 rfl
  have r1_W3 : W3.cell? ⟨w.heap.size, 1, none⟩ = some (.string (⟨#[]⟩)) := HZW3.out.cell 1 rfl
  have r2_W3 : W3.cell? ⟨w.heap.size, 2, none⟩ = some (.string (⟨#[]⟩)) := HZW3.out.cell 2 rfl
  have r3_W3 : W3.cell? ⟨w.heap.size, 3, none⟩ = some (.int .i64 (0)) := HZW3.out.cell 3 rfl
  have r4_W3 : W3.cell? ⟨w.heap.size, 4, none⟩ = some (.int .i64 (0)) := HZW3.out.cell 4 rfl
  have r5_W3 : W3.cell? ⟨w.heap.size, 5, none⟩ = some (.int .i64 (0)) := HZW3.out.cell 5 rfl
  have r6_W3 : W3.cell? ⟨w.heap.size, 6, none⟩ = some (.string (⟨#[]⟩)) := HZW3.out.cell 6 rfl
  have r7_W3 : W3.cell? ⟨w.heap.size, 7, none⟩ = some (.slice none 0 0) := HZW3.out.cell 7 rfl
  have r8_W3 : W3.cell? ⟨w.heap.size, 8, none⟩ = some (.slice none 0 0) := HZW3.out.cell 8 rfl
  have r9_W3 : W3.cell? ⟨w.heap.size, 9, none⟩ = some (.slice none 0 0) := HZW3.out.cell 9 rfl
  have r10_W3 : W3.cell? ⟨w.heap.size, 10, none⟩ = some (.complex .f64 0 0) := HZW3.out.cell 10 rfl
  have xf_W3 : ∀ j, W3.frozen? ⟨B8, j, none⟩ = false := HXW3.out.fz
  have rf_W3 : ∀ j, W3.frozen? ⟨w.heap.size, j, none⟩ = false := HZW3.out.fz
  have xl_W3 : B8 < W3.heap.size := HXW3.out.lt
  have rl_W3 : w.heap.size < W3.heap.size := HZW3.out.lt
  obtain ⟨V26, hV26⟩ : ∃ W, (W3).setCell ⟨B8, 0, none⟩ (.int .i64 4) = W := ⟨_, rfl⟩
  have HXV26 : Hid (BoxS V26 B8 (⟨4, ⟨#[]⟩, ⟨#[]⟩, 0, 0, 0, ⟨#[]⟩, none, 0, 0, none, 0, 0, none, 0, 0, X, Y⟩ : Sv).cells) := by rw [← hV26]; exact ((HXW3.out).setv 0 [.int .i64 4] (⟨4, ⟨#[]⟩, ⟨#[]⟩, 0, 0, 0, ⟨#[]⟩, none, 0, 0, none, 0, 0, none, 0, 0, X, Y⟩ : Sv).cells (by show 0 + 1 ≤ 11; decide) rfl)
  have HZV26 : Hid (BoxS V26 w.heap.size (sv0 0 0).cells) := by rw [← hV26]; exact ((HZW3.out).apart hrB 0 [.int .i64 4])
  have HBV26 : Hid (But R w V26) := by rw [← hV26]; exact ((HBW3.out).sets (B := B8) (by omega) 0 [.int .i64 4])
  have HTV26 : Hid (BoxS V26 (w.heap.size + 1) [.int .i64 ((1 : Nat) : Int), .string TX, .int .i64 (nn : Int), .int .i64 (aa : Int)]) := by rw [← hV26]; exact ((HTW3.out).apart htB 0 [.int .i64 4])
  have uV26 : V26.cell? ⟨w.heap.size + 1, 1, none⟩ = some (.string TX) := HTV26.out.cell 1 rfl
  have HQV26 : Hid (Rq V26 R g cap ts (a + 1) false bad) := by rw [← hV26]; exact ((HQW3.out).sets hBR hBg 0 [.int .i64 4])
  cases hnm : isNmT (Px.hd (left ts (a + 1))) with
  | true =>
    have H29 : Hid (isNmT (Px.hd (left ts (a + 1))) = true) := hnm
    have NM : Hid _ := rname_any HQV26.out HA2.out (HOK.out.fit _ (List.getElem_mem HA2.out)) true (by rw [hnm]; rfl)
    go_wp2_with fail
    refine Calls.mono NM.out ?_
    rintro e w27 ⟨⟨v28, rfl, hv⟩, hbn, hz⟩
    have HVv28 : Hid _ := hv
    clear NM
    have HXw27 : Hid (BoxS w27 B8 (⟨4, ⟨#[]⟩, ⟨#[]⟩, 0, 0, 0, ⟨#[]⟩, none, 0, 0, none, 0, 0, none, 0, 0, X, Y⟩ : Sv).cells) := HXV26.out.but hbn hBR
    have HZw27 : Hid (BoxS w27 w.heap.size (sv0 0 0).cells) := HZV26.out.but hbn hrR
    have HBw27 : Hid (But R w w27) := HBV26.out.then hbn
    have HTw27 : Hid (BoxS w27 (w.heap.size + 1) [.int .i64 ((1 : Nat) : Int), .string TX, .int .i64 (nn : Int), .int .i64 (aa : Int)]) := HTV26.out.but hbn htR
    have HQw27 : Hid (Rq w27 R g cap ts ((a + 1) + 1) false bad) := Rz_yes hz
    clear hbn
    have HAL30 : Hid (Pp.Alive (left ts ((a + 1) + 1))) := alive_next HAL2.out (nmt_kind H29.out)
    have HLT31 : Hid ((a + 1) + 1 < ts.length) := alive_lt HAL30.out
    have hP := HPO0.out
    rw [bind_name_yes H29.out, left_tail] at hP
    have HPO32 : Hid _ := hP
    have HWv28 : Hid (v28 = Px.ba (Px.hd (left ts (a + 1))).2.1) := hv trivial
    clear hv hz hnm hP
    clear x0_W3 x1_W3 x2_W3 x3_W3 x4_W3 x5_W3 x6_W3 x7_W3 x8_W3 x9_W3 x10_W3 r0_W3 r1_W3 r2_W3 r3_W3 r4_W3 r5_W3 r6_W3 r7_W3 r8_W3 r9_W3 r10_W3 xf_W3 rf_W3 xl_W3 rl_W3
    have x0_w27 : w27.cell? ⟨B8, 0, none⟩ = some (.int .i64 (4)) := HXw27.out.cell 0 rfl
    have x1_w27 : w27.cell? ⟨B8, 1, none⟩ = some (.string (⟨#[]⟩)) := HXw27.out.cell 1 rfl
    have x2_w27 : w27.cell? ⟨B8, 2, none⟩ = some (.string (⟨#[]⟩)) := HXw27.out.cell 2 rfl
    have x3_w27 : w27.cell? ⟨B8, 3, none⟩ = some (.int .i64 (0)) := HXw27.out.cell 3 rfl
    have x4_w27 : w27.cell? ⟨B8, 4, none⟩ = some (.int .i64 (0)) := HXw27.out.cell 4 rfl
    have x5_w27 : w27.cell? ⟨B8, 5, none⟩ = some (.int .i64 (0)) := HXw27.out.cell 5 rfl
    have x6_w27 : w27.cell? ⟨B8, 6, none⟩ = some (.string (⟨#[]⟩)) := HXw27.out.cell 6 rfl
    have x7_w27 : w27.cell? ⟨B8, 7, none⟩ = some (.slice none 0 0) := HXw27.out.cell 7 rfl
    have x8_w27 : w27.cell? ⟨B8, 8, none⟩ = some (.slice none 0 0) := HXw27.out.cell 8 rfl
    have x9_w27 : w27.cell? ⟨B8, 9, none⟩ = some (.slice none 0 0) := HXw27.out.cell 9 rfl
    have x10_w27 : w27.cell? ⟨B8, 10, none⟩ = some (.complex .f64 X Y) := HXw27.out.cell 10 rfl
    have r0_w27 : w27.cell? ⟨w.heap.size, 0, none⟩ = some (.int .i64 (0)) := HZw27.out.cell 0 rfl
    have r1_w27 : w27.cell? ⟨w.heap.size, 1, none⟩ = some (.string (⟨#[]⟩)) := HZw27.out.cell 1 rfl
    have r2_w27 : w27.cell? ⟨w.heap.size, 2, none⟩ = some (.string (⟨#[]⟩)) := HZw27.out.cell 2 rfl
    have r3_w27 : w27.cell? ⟨w.heap.size, 3, none⟩ = some (.int .i64 (0)) := HZw27.out.cell 3 rfl
    have r4_w27 : w27.cell? ⟨w.heap.size, 4, none⟩ = some (.int .i64 (0)) := HZw27.out.cell 4 rfl
    have r5_w27 : w27.cell? ⟨w.heap.size, 5, none⟩ = some (.int .i64 (0)) := HZw27.out.cell 5 rfl
    have r6_w27 : w27.cell? ⟨w.heap.size, 6, none⟩ = some (.string (⟨#[]⟩)) := HZw27.out.cell 6 rfl
    have r7_w27 : w27.cell? ⟨w.heap.size, 7, none⟩ = some (.slice none 0 0) := HZw27.out.cell 7 rfl
    have r8_w27 : w27.cell? ⟨w.heap.size, 8, none⟩ = some (.slice none 0 0) := HZw27.out.cell 8 rfl
    have r9_w27 : w27.cell? ⟨w.heap.size, 9, none⟩ = some (.slice none 0 0) := HZw27.out.cell 9 rfl
    have r10_w27 : w27.cell? ⟨w.heap.size, 10, none⟩ = some (.complex .f64 0 0) := HZw27.out.cell 10 rfl
    have xf_w27 : ∀ j, w27.frozen? ⟨B8, j, none⟩ = false := HXw27.out.fz
    have rf_w27 : ∀ j, w27.frozen? ⟨w.heap.size, j, none⟩ = false := HZw27.out.fz
    have xl_w27 : B8 < w27.heap.size := HXw27.out.lt
    have rl_w27 : w.heap.size < w27.heap.size := HZw27.out.lt
    obtain ⟨V33, hV33⟩ : ∃ W, (w27).setCell ⟨B8, 1, none⟩ (.string v28) = W := ⟨_, rfl⟩
    have HXV33 : Hid (BoxS V33 B8 (⟨4, v28, ⟨#[]⟩, 0, 0, 0, ⟨#[]⟩, none, 0, 0, none, 0, 0, none, 0, 0, X, Y⟩ : Sv).cells) := by rw [← hV33]; exact ((HXw27.out).setv 1 [.string v28] (⟨4, v28, ⟨#[]⟩, 0, 0, 0, ⟨#[]⟩, none, 0, 0, none, 0, 0, none, 0, 0, X, Y⟩ : Sv).cells (by show 1 + 1 ≤ 11; decide) rfl)
    have HZV33 : Hid (BoxS V33 w.heap.size (sv0 0 0).cells) := by rw [← hV33]; exact ((HZw27.out).apart hrB 1 [.string v28])
    have HBV33 : Hid (But R w V33) := by rw [← hV33]; exact ((HBw27.out).sets (B := B8) (by omega) 1 [.string v28])
    have HTV33 : Hid (BoxS V33 (w.heap.size + 1) [.int .i64 ((1 : Nat) : Int), .string TX, .int .i64 (nn : Int), .int .i64 (aa : Int)]) := by rw [← hV33]; exact ((HTw27.out).apart htB 1 [.string v28])
    have uV33 : V33.cell? ⟨w.heap.size + 1, 1, none⟩ = some (.string TX) := HTV33.out.cell 1 rfl
    have HQV33 : Hid (Rq V33 R g cap ts ((a + 1) + 1) false bad) := by rw [← hV33]; exact ((HQw27.out).sets hBR hBg 1 [.string v28])
    obtain ⟨o34, m35, hp36⟩ : ∃ o1 m1, Px.read (left ts ((a + 1) + 1)) = (o1, m1) := ⟨_, _, rfl⟩
    have HP45 : Hid (Px.read (left ts ((a + 1) + 1)) = (o34, m35)) := hp36
    have NM : Hid _ := rwhole_any HQV33.out HAL30.out HOK.out.fit s o34 m35 hp36
    have HSF46 : Hid (left ts (ts.length - m35.length) = m35 ∧ Pp.Alive m35) := by
      have h1 := Pp.read_keeps (left ts ((a + 1) + 1)) HAL30.out
      rw [hp36] at h1
      exact ⟨suf_left h1.1, h1.2⟩
    clear hp36
    go_wp2_with fail
    refine Calls.mono NM.out ?_
    rintro e w37 ⟨k38, n39, sx40, ax41, lx42, qx43, rfl, H44⟩
    have hbn := H44.out.1
    clear NM
    cases o34 with
    | none =>
      obtain ⟨fa54, hfa, hq⟩ := H44.out.2.2 rfl
      have HFA55 : Hid (fa54 < ts.length) := hfa
      have HXw37 : Hid (BoxS w37 B8 (⟨4, v28, ⟨#[]⟩, 0, 0, 0, ⟨#[]⟩, none, 0, 0, none, 0, 0, none, 0, 0, X, Y⟩ : Sv).cells) := HXV33.out.but hbn hBR
      have HZw37 : Hid (BoxS w37 w.heap.size (sv0 0 0).cells) := HZV33.out.but hbn hrR
      have HBw37 : Hid (But R w w37) := HBV33.out.then hbn
      have HTw37 : Hid (BoxS w37 (w.heap.size + 1) [.int .i64 ((1 : Nat) : Int), .string TX, .int .i64 (nn : Int), .int .i64 (aa : Int)]) := HTV33.out.but hbn htR
      have HQw37 : Hid (Rq w37 R g cap ts fa54 true (ts.length - m35.length)) := hq
      clear hbn
      have hP := HPO32.out
      rw [Pp.bind_none HP45.out] at hP
      simp only [Prod.mk.injEq] at hP
      have HPO56 : Hid (o = none ∧ m = m35) := ⟨hP.1.symm, hP.2.symm⟩
      clear hfa hq hP
      clear x0_w27 x1_w27 x2_w27 x3_w27 x4_w27 x5_w27 x6_w27 x7_w27 x8_w27 x9_w27 x10_w27 r0_w27 r1_w27 r2_w27 r3_w27 r4_w27 r5_w27 r6_w27 r7_w27 r8_w27 r9_w27 r10_w27 xf_w27 rf_w27 xl_w27 rl_w27
      have x0_w37 : w37.cell? ⟨B8, 0, none⟩ = some (.int .i64 (4)) := HXw37.out.cell 0 rfl
      have x1_w37 : w37.cell? ⟨B8, 1, none⟩ = some (.string (v28)) := HXw37.out.cell 1 rfl
      have x2_w37 : w37.cell? ⟨B8, 2, none⟩ = some (.string (⟨#[]⟩)) := HXw37.out.cell 2 rfl
      have x3_w37 : w37.cell? ⟨B8, 3, none⟩ = some (.int .i64 (0)) := HXw37.out.cell 3 rfl
      have x4_w37 : w37.cell? ⟨B8, 4, none⟩ = some (.int .i64 (0)) := HXw37.out.cell 4 rfl
      have x5_w37 : w37.cell? ⟨B8, 5, none⟩ = some (.int .i64 (0)) := HXw37.out.cell 5 rfl
      have x6_w37 : w37.cell? ⟨B8, 6, none⟩ = some (.string (⟨#[]⟩)) := HXw37.out.cell 6 rfl
      have x7_w37 : w37.cell? ⟨B8, 7, none⟩ = some (.slice none 0 0) := HXw37.out.cell 7 rfl
      have x8_w37 : w37.cell? ⟨B8, 8, none⟩ = some (.slice none 0 0) := HXw37.out.cell 8 rfl
      have x9_w37 : w37.cell? ⟨B8, 9, none⟩ = some (.slice none 0 0) := HXw37.out.cell 9 rfl
      have x10_w37 : w37.cell? ⟨B8, 10, none⟩ = some (.complex .f64 X Y) := HXw37.out.cell 10 rfl
      have r0_w37 : w37.cell? ⟨w.heap.size, 0, none⟩ = some (.int .i64 (0)) := HZw37.out.cell 0 rfl
      have r1_w37 : w37.cell? ⟨w.heap.size, 1, none⟩ = some (.string (⟨#[]⟩)) := HZw37.out.cell 1 rfl
      have r2_w37 : w37.cell? ⟨w.heap.size, 2, none⟩ = some (.string (⟨#[]⟩)) := HZw37.out.cell 2 rfl
      have r3_w37 : w37.cell? ⟨w.heap.size, 3, none⟩ = some (.int .i64 (0)) := HZw37.out.cell 3 rfl
      have r4_w37 : w37.cell? ⟨w.heap.size, 4, none⟩ = some (.int .i64 (0)) := HZw37.out.cell 4 rfl
      have r5_w37 : w37.cell? ⟨w.heap.size, 5, none⟩ = some (.int .i64 (0)) := HZw37.out.cell 5 rfl
      have r6_w37 : w37.cell? ⟨w.heap.size, 6, none⟩ = some (.string (⟨#[]⟩)) := HZw37.out.cell 6 rfl
      have r7_w37 : w37.cell? ⟨w.heap.size, 7, none⟩ = some (.slice none 0 0) := HZw37.out.cell 7 rfl
      have r8_w37 : w37.cell? ⟨w.heap.size, 8, none⟩ = some (.slice none 0 0) := HZw37.out.cell 8 rfl
      have r9_w37 : w37.cell? ⟨w.heap.size, 9, none⟩ = some (.slice none 0 0) := HZw37.out.cell 9 rfl
      have r10_w37 : w37.cell? ⟨w.heap.size, 10, none⟩ = some (.complex .f64 0 0) := HZw37.out.cell 10 rfl
      have xf_w37 : ∀ j, w37.frozen? ⟨B8, j, none⟩ = false := HXw37.out.fz
      have rf_w37 : ∀ j, w37.frozen? ⟨w.heap.size, j, none⟩ = false := HZw37.out.fz
      have xl_w37 : B8 < w37.heap.size := HXw37.out.lt
      have rl_w37 : w.heap.size < w37.heap.size := HZw37.out.lt
      obtain ⟨V57, hV57⟩ : ∃ W, ((((w37).setCell ⟨B8, 4, none⟩ (.int .i64 k38)).setCell ⟨B8, 5, none⟩ (.int .i64 n39)).setCell ⟨B8, 6, none⟩ (.string sx40)).setCell ⟨B8, 7, none⟩ (.slice ax41 lx42 qx43) = W := ⟨_, rfl⟩
      have HXV57 : Hid (BoxS V57 B8 (⟨4, v28, ⟨#[]⟩, 0, k38, n39, sx40, ax41, lx42, qx43, none, 0, 0, none, 0, 0, X, Y⟩ : Sv).cells) := by rw [← hV57]; exact ((HXw37.out).setv 4 [.int .i64 k38, .int .i64 n39, .string sx40, .slice ax41 lx42 qx43] (⟨4, v28, ⟨#[]⟩, 0, k38, n39, sx40, ax41, lx42, qx43, none, 0, 0, none, 0, 0, X, Y⟩ : Sv).cells (by show 4 + 4 ≤ 11; decide) rfl)
      have HZV57 : Hid (BoxS V57 w.heap.size (sv0 0 0).cells) := by rw [← hV57]; exact ((HZw37.out).apart hrB 4 [.int .i64 k38, .int .i64 n39, .string sx40, .slice ax41 lx42 qx43])
      have HBV57 : Hid (But R w V57) := by rw [← hV57]; exact ((HBw37.out).sets (B := B8) (by omega) 4 [.int .i64 k38, .int .i64 n39, .string sx40, .slice ax41 lx42 qx43])
      have HTV57 : Hid (BoxS V57 (w.heap.size + 1) [.int .i64 ((1 : Nat) : Int), .string TX, .int .i64 (nn : Int), .int .i64 (aa : Int)]) := by rw [← hV57]; exact ((HTw37.out).apart htB 4 [.int .i64 k38, .int .i64 n39, .string sx40, .slice ax41 lx42 qx43])
      have uV57 : V57.cell? ⟨w.heap.size + 1, 1, none⟩ = some (.string TX) := HTV57.out.cell 1 rfl
      have HQV57 : Hid (Rq V57 R g cap ts fa54 true (ts.length - m35.length)) := by rw [← hV57]; exact ((HQw37.out).sets hBR hBg 4 [.int .i64 k38, .int .i64 n39, .string sx40, .slice ax41 lx42 qx43])
      have x0_V57 : V57.cell? ⟨B8, 0, none⟩ = some (.int .i64 (4)) := HXV57.out.cell 0 rfl
      have x1_V57 : V57.cell? ⟨B8, 1, none⟩ = some (.string (v28)) := HXV57.out.cell 1 rfl
      have x2_V57 : V57.cell? ⟨B8, 2, none⟩ = some (.string (⟨#[]⟩)) := HXV57.out.cell 2 rfl
      have x3_V57 : V57.cell? ⟨B8, 3, none⟩ = some (.int .i64 (0)) := HXV57.out.cell 3 rfl
      have x4_V57 : V57.cell? ⟨B8, 4, none⟩ = some (.int .i64 (k38)) := HXV57.out.cell 4 rfl
      have x5_V57 : V57.cell? ⟨B8, 5, none⟩ = some (.int .i64 (n39)) := HXV57.out.cell 5 rfl
      have x6_V57 : V57.cell? ⟨B8, 6, none⟩ = some (.string (sx40)) := HXV57.out.cell 6 rfl
      have x7_V57 : V57.cell? ⟨B8, 7, none⟩ = some (.slice ax41 lx42 qx43) := HXV57.out.cell 7 rfl
      have x8_V57 : V57.cell? ⟨B8, 8, none⟩ = some (.slice none 0 0) := HXV57.out.cell 8 rfl
      have x9_V57 : V57.cell? ⟨B8, 9, none⟩ = some (.slice none 0 0) := HXV57.out.cell 9 rfl
      have x10_V57 : V57.cell? ⟨B8, 10, none⟩ = some (.complex .f64 X Y) := HXV57.out.cell 10 rfl
      have r0_V57 : V57.cell? ⟨w.heap.size, 0, none⟩ = some (.int .i64 (0)) := HZV57.out.cell 0 rfl
      have r1_V57 : V57.cell? ⟨w.heap.size, 1, none⟩ = some (.string (⟨#[]⟩)) := HZV57.out.cell 1 rfl
      have r2_V57 : V57.cell? ⟨w.heap.size, 2, none⟩ = some (.string (⟨#[]⟩)) := HZV57.out.cell 2 rfl
      have r3_V57 : V57.cell? ⟨w.heap.size, 3, none⟩ = some (.int .i64 (0)) := HZV57.out.cell 3 rfl
      have r4_V57 : V57.cell? ⟨w.heap.size, 4, none⟩ = some (.int .i64 (0)) := HZV57.out.cell 4 rfl
      have r5_V57 : V57.cell? ⟨w.heap.size, 5, none⟩ = some (.int .i64 (0)) := HZV57.out.cell 5 rfl
      have r6_V57 : V57.cell? ⟨w.heap.size, 6, none⟩ = some (.string (⟨#[]⟩)) := HZV57.out.cell 6 rfl
      have r7_V57 : V57.cell? ⟨w.heap.size, 7, none⟩ = some (.slice none 0 0) := HZV57.out.cell 7 rfl
      have r8_V57 : V57.cell? ⟨w.heap.size, 8, none⟩ = some (.slice none 0 0) := HZV57.out.cell 8 rfl
      have r9_V57 : V57.cell? ⟨w.heap.size, 9, none⟩ = some (.slice none 0 0) := HZV57.out.cell 9 rfl
      have r10_V57 : V57.cell? ⟨w.heap.size, 10, none⟩ = some (.complex .f64 0 0) := HZV57.out.cell 10 rfl
      have xf_V57 : ∀ j, V57.frozen? ⟨B8, j, none⟩ = false := HXV57.out.fz
      have rf_V57 : ∀ j, V57.frozen? ⟨w.heap.size, j, none⟩ = false := HZV57.out.fz
      have xl_V57 : B8 < V57.heap.size := HXV57.out.lt
      have rl_V57 : w.heap.size < V57.heap.size := HZV57.out.lt
      go_wp2_with fail
      obtain ⟨hO1, hO2⟩ := HPO56.out
      subst hO1 hO2
      refine reds_end (⟨4, v28, ⟨#[]⟩, 0, k38, n39, sx40, ax41, lx42, qx43, none, 0, 0, none, 0, 0, X, Y⟩ : Sv) rfl HZV57.out HBV57.out hRw HGW.out ?hsome (fun _ => ⟨fa54, HFA55.out, ?_⟩)
      case hsome => exact fun x hx => by cases hx
      exact HQV57.out
    | some y47 =>
      obtain ⟨rfl, rfl, rfl, hT, hq⟩ := H44.out.2.1 y47 rfl
      obtain ⟨b52, hbb⟩ : ∃ b, ts.length - m35.length = b := ⟨_, rfl⟩
      rw [hbb] at hq HSF46
      clear hbb
      have HXw37 : Hid (BoxS w37 B8 (⟨4, v28, ⟨#[]⟩, 0, 0, 0, ⟨#[]⟩, none, 0, 0, none, 0, 0, none, 0, 0, X, Y⟩ : Sv).cells) := HXV33.out.but hbn hBR
      have HZw37 : Hid (BoxS w37 w.heap.size (sv0 0 0).cells) := HZV33.out.but hbn hrR
      have HBw37 : Hid (But R w w37) := HBV33.out.then hbn
      have HTw37 : Hid (BoxS w37 (w.heap.size + 1) [.int .i64 ((1 : Nat) : Int), .string TX, .int .i64 (nn : Int), .int .i64 (aa : Int)]) := HTV33.out.but hbn htR
      have HQw37 : Hid (Rq w37 R g cap ts b52 false bad) := hq
      have HRE51_w37 : Hid (ExsD w37 (Dk B8 w37) y47.of (.slice ax41 lx42 qx43)) := ex_new hT HXV33.out.lt
      clear hbn
      have HAL48 : Hid (Pp.Alive (left ts b52)) := by rw [HSF46.out.1]; exact HSF46.out.2
      have HLT49 : Hid (b52 < ts.length) := alive_lt HAL48.out
      have hP := HPO32.out
      rw [Pp.bind_some HP45.out, ← HSF46.out.1] at hP
      have HPO50 : Hid _ := hP
      clear hT hq hP
      clear x0_w27 x1_w27 x2_w27 x3_w27 x4_w27 x5_w27 x6_w27 x7_w27 x8_w27 x9_w27 x10_w27 r0_w27 r1_w27 r2_w27 r3_w27 r4_w27 r5_w27 r6_w27 r7_w27 r8_w27 r9_w27 r10_w27 xf_w27 rf_w27 xl_w27 rl_w27
      have x0_w37 : w37.cell? ⟨B8, 0, none⟩ = some (.int .i64 (4)) := HXw37.out.cell 0 rfl
      have x1_w37 : w37.cell? ⟨B8, 1, none⟩ = some (.string (v28)) := HXw37.out.cell 1 rfl
      have x2_w37 : w37.cell? ⟨B8, 2, none⟩ = some (.string (⟨#[]⟩)) := HXw37.out.cell 2 rfl
      have x3_w37 : w37.cell? ⟨B8, 3, none⟩ = some (.int .i64 (0)) := HXw37.out.cell 3 rfl
      have x4_w37 : w37.cell? ⟨B8, 4, none⟩ = some (.int .i64 (0)) := HXw37.out.cell 4 rfl
      have x5_w37 : w37.cell? ⟨B8, 5, none⟩ = some (.int .i64 (0)) := HXw37.out.cell 5 rfl
      have x6_w37 : w37.cell? ⟨B8, 6, none⟩ = some (.string (⟨#[]⟩)) := HXw37.out.cell 6 rfl
      have x7_w37 : w37.cell? ⟨B8, 7, none⟩ = some (.slice none 0 0) := HXw37.out.cell 7 rfl
      have x8_w37 : w37.cell? ⟨B8, 8, none⟩ = some (.slice none 0 0) := HXw37.out.cell 8 rfl
      have x9_w37 : w37.cell? ⟨B8, 9, none⟩ = some (.slice none 0 0) := HXw37.out.cell 9 rfl
      have x10_w37 : w37.cell? ⟨B8, 10, none⟩ = some (.complex .f64 X Y) := HXw37.out.cell 10 rfl
      have r0_w37 : w37.cell? ⟨w.heap.size, 0, none⟩ = some (.int .i64 (0)) := HZw37.out.cell 0 rfl
      have r1_w37 : w37.cell? ⟨w.heap.size, 1, none⟩ = some (.string (⟨#[]⟩)) := HZw37.out.cell 1 rfl
      have r2_w37 : w37.cell? ⟨w.heap.size, 2, none⟩ = some (.string (⟨#[]⟩)) := HZw37.out.cell 2 rfl
      have r3_w37 : w37.cell? ⟨w.heap.size, 3, none⟩ = some (.int .i64 (0)) := HZw37.out.cell 3 rfl
      have r4_w37 : w37.cell? ⟨w.heap.size, 4, none⟩ = some (.int .i64 (0)) := HZw37.out.cell 4 rfl
      have r5_w37 : w37.cell? ⟨w.heap.size, 5, none⟩ = some (.int .i64 (0)) := HZw37.out.cell 5 rfl
      have r6_w37 : w37.cell? ⟨w.heap.size, 6, none⟩ = some (.string (⟨#[]⟩)) := HZw37.out.cell 6 rfl
      have r7_w37 : w37.cell? ⟨w.heap.size, 7, none⟩ = some (.slice none 0 0) := HZw37.out.cell 7 rfl
      have r8_w37 : w37.cell? ⟨w.heap.size, 8, none⟩ = some (.slice none 0 0) := HZw37.out.cell 8 rfl
      have r9_w37 : w37.cell? ⟨w.heap.size, 9, none⟩ = some (.slice none 0 0) := HZw37.out.cell 9 rfl
      have r10_w37 : w37.cell? ⟨w.heap.size, 10, none⟩ = some (.complex .f64 0 0) := HZw37.out.cell 10 rfl
      have xf_w37 : ∀ j, w37.frozen? ⟨B8, j, none⟩ = false := HXw37.out.fz
      have rf_w37 : ∀ j, w37.frozen? ⟨w.heap.size, j, none⟩ = false := HZw37.out.fz
      have xl_w37 : B8 < w37.heap.size := HXw37.out.lt
      have rl_w37 : w.heap.size < w37.heap.size := HZw37.out.lt
      obtain ⟨V53, hV53⟩ : ∃ W, ((((w37).setCell ⟨B8, 4, none⟩ (.int .i64 y47.kind)).setCell ⟨B8, 5, none⟩ (.int .i64 y47.n)).setCell ⟨B8, 6, none⟩ (.string y47.name)).setCell ⟨B8, 7, none⟩ (.slice ax41 lx42 qx43) = W := ⟨_, rfl⟩
      have HXV53 : Hid (BoxS V53 B8 (⟨4, v28, ⟨#[]⟩, 0, y47.kind, y47.n, y47.name, ax41, lx42, qx43, none, 0, 0, none, 0, 0, X, Y⟩ : Sv).cells) := by rw [← hV53]; exact ((HXw37.out).setv 4 [.int .i64 y47.kind, .int .i64 y47.n, .string y47.name, .slice ax41 lx42 qx43] (⟨4, v28, ⟨#[]⟩, 0, y47.kind, y47.n, y47.name, ax41, lx42, qx43, none, 0, 0, none, 0, 0, X, Y⟩ : Sv).cells (by show 4 + 4 ≤ 11; decide) rfl)
      have HZV53 : Hid (BoxS V53 w.heap.size (sv0 0 0).cells) := by rw [← hV53]; exact ((HZw37.out).apart hrB 4 [.int .i64 y47.kind, .int .i64 y47.n, .string y47.name, .slice ax41 lx42 qx43])
      have HBV53 : Hid (But R w V53) := by rw [← hV53]; exact ((HBw37.out).sets (B := B8) (by omega) 4 [.int .i64 y47.kind, .int .i64 y47.n, .string y47.name, .slice ax41 lx42 qx43])
      have HTV53 : Hid (BoxS V53 (w.heap.size + 1) [.int .i64 ((1 : Nat) : Int), .string TX, .int .i64 (nn : Int), .int .i64 (aa : Int)]) := by rw [← hV53]; exact ((HTw37.out).apart htB 4 [.int .i64 y47.kind, .int .i64 y47.n, .string y47.name, .slice ax41 lx42 qx43])
      have uV53 : V53.cell? ⟨w.heap.size + 1, 1, none⟩ = some (.string TX) := HTV53.out.cell 1 rfl
      have HQV53 : Hid (Rq V53 R g cap ts b52 false bad) := by rw [← hV53]; exact ((HQw37.out).sets hBR hBg 4 [.int .i64 y47.kind, .int .i64 y47.n, .string y47.name, .slice ax41 lx42 qx43])
      have HRE51_V53 : Hid (ExsD V53 (Dk B8 V53) y47.of (.slice ax41 lx42 qx43)) := by rw [← hV53]; exact (ex_set HRE51_w37.out 4 [.int .i64 y47.kind, .int .i64 y47.n, .string y47.name, .slice ax41 lx42 qx43])
      have x0_V53 : V53.cell? ⟨B8, 0, none⟩ = some (.int .i64 (4)) := HXV53.out.cell 0 rfl
      have x1_V53 : V53.cell? ⟨B8, 1, none⟩ = some (.string (v28)) := HXV53.out.cell 1 rfl
      have x2_V53 : V53.cell? ⟨B8, 2, none⟩ = some (.string (⟨#[]⟩)) := HXV53.out.cell 2 rfl
      have x3_V53 : V53.cell? ⟨B8, 3, none⟩ = some (.int .i64 (0)) := HXV53.out.cell 3 rfl
      have x4_V53 : V53.cell? ⟨B8, 4, none⟩ = some (.int .i64 (y47.kind)) := HXV53.out.cell 4 rfl
      have x5_V53 : V53.cell? ⟨B8, 5, none⟩ = some (.int .i64 (y47.n)) := HXV53.out.cell 5 rfl
      have x6_V53 : V53.cell? ⟨B8, 6, none⟩ = some (.string (y47.name)) := HXV53.out.cell 6 rfl
      have x7_V53 : V53.cell? ⟨B8, 7, none⟩ = some (.slice ax41 lx42 qx43) := HXV53.out.cell 7 rfl
      have x8_V53 : V53.cell? ⟨B8, 8, none⟩ = some (.slice none 0 0) := HXV53.out.cell 8 rfl
      have x9_V53 : V53.cell? ⟨B8, 9, none⟩ = some (.slice none 0 0) := HXV53.out.cell 9 rfl
      have x10_V53 : V53.cell? ⟨B8, 10, none⟩ = some (.complex .f64 X Y) := HXV53.out.cell 10 rfl
      have r0_V53 : V53.cell? ⟨w.heap.size, 0, none⟩ = some (.int .i64 (0)) := HZV53.out.cell 0 rfl
      have r1_V53 : V53.cell? ⟨w.heap.size, 1, none⟩ = some (.string (⟨#[]⟩)) := HZV53.out.cell 1 rfl
      have r2_V53 : V53.cell? ⟨w.heap.size, 2, none⟩ = some (.string (⟨#[]⟩)) := HZV53.out.cell 2 rfl
      have r3_V53 : V53.cell? ⟨w.heap.size, 3, none⟩ = some (.int .i64 (0)) := HZV53.out.cell 3 rfl
      have r4_V53 : V53.cell? ⟨w.heap.size, 4, none⟩ = some (.int .i64 (0)) := HZV53.out.cell 4 rfl
      have r5_V53 : V53.cell? ⟨w.heap.size, 5, none⟩ = some (.int .i64 (0)) := HZV53.out.cell 5 rfl
      have r6_V53 : V53.cell? ⟨w.heap.size, 6, none⟩ = some (.string (⟨#[]⟩)) := HZV53.out.cell 6 rfl
      have r7_V53 : V53.cell? ⟨w.heap.size, 7, none⟩ = some (.slice none 0 0) := HZV53.out.cell 7 rfl
      have r8_V53 : V53.cell? ⟨w.heap.size, 8, none⟩ = some (.slice none 0 0) := HZV53.out.cell 8 rfl
      have r9_V53 : V53.cell? ⟨w.heap.size, 9, none⟩ = some (.slice none 0 0) := HZV53.out.cell 9 rfl
      have r10_V53 : V53.cell? ⟨w.heap.size, 10, none⟩ = some (.complex .f64 0 0) := HZV53.out.cell 10 rfl
      have xf_V53 : ∀ j, V53.frozen? ⟨B8, j, none⟩ = false := HXV53.out.fz
      have rf_V53 : ∀ j, V53.frozen? ⟨w.heap.size, j, none⟩ = false := HZV53.out.fz
      have xl_V53 : B8 < V53.heap.size := HXV53.out.lt
      have rl_V53 : w.heap.size < V53.heap.size := HZV53.out.lt
      go_wp2_with fail
      have hP := HPO50.out
      simp only [Pp.ret, Prod.mk.injEq] at hP
      obtain ⟨hO1, hO2⟩ := hP
      subst hO1 hO2
      refine reds_end (⟨4, v28, ⟨#[]⟩, 0, y47.kind, y47.n, y47.name, ax41, lx42, qx43, none, 0, 0, none, 0, 0, X, Y⟩ : Sv) rfl HZV53.out HBV53.out hRw HGW.out (fun x hx => ?_) (fun hx => by cases hx)
      cases hx
      refine ⟨⟨rfl, HWv28.out, rfl, rfl, rfl, rfl, rfl, rfl, rfl, ex_fin HRE51_V53.out (by omega), StsD.nil' _ _, StsD.nil' _ _⟩, ?_⟩
      rw [show ts.length - (left ts b52).length = b52 by rw [left_len]; have := HLT49.out; omega]
      exact HQV53.out
  | false =>
    have H60 : Hid (isNmT (Px.hd (left ts (a + 1))) = false) := hnm
    have NM : Hid _ := rname_any HQV26.out HA2.out (HOK.out.fit _ (List.getElem_mem HA2.out)) false (by rw [hnm]; rfl)
    go_wp2_with fail
    refine Calls.mono NM.out ?_
    rintro e w58 ⟨⟨v59, rfl, hv⟩, hbn, hz⟩
    have HVv59 : Hid _ := hv
    clear NM
    have HXw58 : Hid (BoxS w58 B8 (⟨4, ⟨#[]⟩, ⟨#[]⟩, 0, 0, 0, ⟨#[]⟩, none, 0, 0, none, 0, 0, none, 0, 0, X, Y⟩ : Sv).cells) := HXV26.out.but hbn hBR
    have HZw58 : Hid (BoxS w58 w.heap.size (sv0 0 0).cells) := HZV26.out.but hbn hrR
    have HBw58 : Hid (But R w w58) := HBV26.out.then hbn
    have HTw58 : Hid (BoxS w58 (w.heap.size + 1) [.int .i64 ((1 : Nat) : Int), .string TX, .int .i64 (nn : Int), .int .i64 (aa : Int)]) := HTV26.out.but hbn htR
    have HQw58 : Hid (Rq w58 R g cap ts (a + 1) true (a + 1)) := Rz_no hz
    clear hbn
    have hP := HPO0.out
    rw [bind_name_no (nm_no HOK.out HA2.out H60.out)] at hP
    simp only [Prod.mk.injEq] at hP
    have HPO61 : Hid (o = none ∧ m = (left ts (a + 1))) := ⟨hP.1.symm, hP.2.symm⟩
    clear hv hz hnm hP
    clear x0_W3 x1_W3 x2_W3 x3_W3 x4_W3 x5_W3 x6_W3 x7_W3 x8_W3 x9_W3 x10_W3 r0_W3 r1_W3 r2_W3 r3_W3 r4_W3 r5_W3 r6_W3 r7_W3 r8_W3 r9_W3 r10_W3 xf_W3 rf_W3 xl_W3 rl_W3
    have x0_w58 : w58.cell? ⟨B8, 0, none⟩ = some (.int .i64 (4)) := HXw58.out.cell 0 rfl
    have x1_w58 : w58.cell? ⟨B8, 1, none⟩ = some (.string (⟨#[]⟩)) := HXw58.out.cell 1 rfl
    have x2_w58 : w58.cell? ⟨B8, 2, none⟩ = some (.string (⟨#[]⟩)) := HXw58.out.cell 2 rfl
    have x3_w58 : w58.cell? ⟨B8, 3, none⟩ = some (.int .i64 (0)) := HXw58.out.cell 3 rfl
    have x4_w58 : w58.cell? ⟨B8, 4, none⟩ = some (.int .i64 (0)) := HXw58.out.cell 4 rfl
    have x5_w58 : w58.cell? ⟨B8, 5, none⟩ = some (.int .i64 (0)) := HXw58.out.cell 5 rfl
    have x6_w58 : w58.cell? ⟨B8, 6, none⟩ = some (.string (⟨#[]⟩)) := HXw58.out.cell 6 rfl
    have x7_w58 : w58.cell? ⟨B8, 7, none⟩ = some (.slice none 0 0) := HXw58.out.cell 7 rfl
    have x8_w58 : w58.cell? ⟨B8, 8, none⟩ = some (.slice none 0 0) := HXw58.out.cell 8 rfl
    have x9_w58 : w58.cell? ⟨B8, 9, none⟩ = some (.slice none 0 0) := HXw58.out.cell 9 rfl
    have x10_w58 : w58.cell? ⟨B8, 10, none⟩ = some (.complex .f64 X Y) := HXw58.out.cell 10 rfl
    have r0_w58 : w58.cell? ⟨w.heap.size, 0, none⟩ = some (.int .i64 (0)) := HZw58.out.cell 0 rfl
    have r1_w58 : w58.cell? ⟨w.heap.size, 1, none⟩ = some (.string (⟨#[]⟩)) := HZw58.out.cell 1 rfl
    have r2_w58 : w58.cell? ⟨w.heap.size, 2, none⟩ = some (.string (⟨#[]⟩)) := HZw58.out.cell 2 rfl
    have r3_w58 : w58.cell? ⟨w.heap.size, 3, none⟩ = some (.int .i64 (0)) := HZw58.out.cell 3 rfl
    have r4_w58 : w58.cell? ⟨w.heap.size, 4, none⟩ = some (.int .i64 (0)) := HZw58.out.cell 4 rfl
    have r5_w58 : w58.cell? ⟨w.heap.size, 5, none⟩ = some (.int .i64 (0)) := HZw58.out.cell 5 rfl
    have r6_w58 : w58.cell? ⟨w.heap.size, 6, none⟩ = some (.string (⟨#[]⟩)) := HZw58.out.cell 6 rfl
    have r7_w58 : w58.cell? ⟨w.heap.size, 7, none⟩ = some (.slice none 0 0) := HZw58.out.cell 7 rfl
    have r8_w58 : w58.cell? ⟨w.heap.size, 8, none⟩ = some (.slice none 0 0) := HZw58.out.cell 8 rfl
    have r9_w58 : w58.cell? ⟨w.heap.size, 9, none⟩ = some (.slice none 0 0) := HZw58.out.cell 9 rfl
    have r10_w58 : w58.cell? ⟨w.heap.size, 10, none⟩ = some (.complex .f64 0 0) := HZw58.out.cell 10 rfl
    have xf_w58 : ∀ j, w58.frozen? ⟨B8, j, none⟩ = false := HXw58.out.fz
    have rf_w58 : ∀ j, w58.frozen? ⟨w.heap.size, j, none⟩ = false := HZw58.out.fz
    have xl_w58 : B8 < w58.heap.size := HXw58.out.lt
    have rl_w58 : w.heap.size < w58.heap.size := HZw58.out.lt
    obtain ⟨V62, hV62⟩ : ∃ W, (w58).setCell ⟨B8, 1, none⟩ (.string v59) = W := ⟨_, rfl⟩
    have HXV62 : Hid (BoxS V62 B8 (⟨4, v59, ⟨#[]⟩, 0, 0, 0, ⟨#[]⟩, none, 0, 0, none, 0, 0, none, 0, 0, X, Y⟩ : Sv).cells) := by rw [← hV62]; exact ((HXw58.out).setv 1 [.string v59] (⟨4, v59, ⟨#[]⟩, 0, 0, 0, ⟨#[]⟩, none, 0, 0, none, 0, 0, none, 0, 0, X, Y⟩ : Sv).cells (by show 1 + 1 ≤ 11; decide) rfl)
    have HZV62 : Hid (BoxS V62 w.heap.size (sv0 0 0).cells) := by rw [← hV62]; exact ((HZw58.out).apart hrB 1 [.string v59])
    have HBV62 : Hid (But R w V62) := by rw [← hV62]; exact ((HBw58.out).sets (B := B8) (by omega) 1 [.string v59])
    have HTV62 : Hid (BoxS V62 (w.heap.size + 1) [.int .i64 ((1 : Nat) : Int), .string TX, .int .i64 (nn : Int), .int .i64 (aa : Int)]) := by rw [← hV62]; exact ((HTw58.out).apart htB 1 [.string v59])
    have uV62 : V62.cell? ⟨w.heap.size + 1, 1, none⟩ = some (.string TX) := HTV62.out.cell 1 rfl
    have HQV62 : Hid (Rq V62 R g cap ts (a + 1) true (a + 1)) := by rw [← hV62]; exact ((HQw58.out).sets hBR hBg 1 [.string v59])
    have NM : Hid _ := rwhole_no HQV62.out s
    go_wp2_with fail
    refine Calls.mono NM.out ?_
    rintro e w63 ⟨rfl, kk⟩
    have hbn : But R V62 w63 := But.of kk
    clear NM
    have HXw63 : Hid (BoxS w63 B8 (⟨4, v59, ⟨#[]⟩, 0, 0, 0, ⟨#[]⟩, none, 0, 0, none, 0, 0, none, 0, 0, X, Y⟩ : Sv).cells) := HXV62.out.but hbn hBR
    have HZw63 : Hid (BoxS w63 w.heap.size (sv0 0 0).cells) := HZV62.out.but hbn hrR
    have HBw63 : Hid (But R w w63) := HBV62.out.then hbn
    have HTw63 : Hid (BoxS w63 (w.heap.size + 1) [.int .i64 ((1 : Nat) : Int), .string TX, .int .i64 (nn : Int), .int .i64 (aa : Int)]) := HTV62.out.but hbn htR
    have HQw63 : Hid (Rq w63 R g cap ts (a + 1) true (a + 1)) := HQV62.out.kept kk
    clear hbn
    clear kk
    clear x0_w58 x1_w58 x2_w58 x3_w58 x4_w58 x5_w58 x6_w58 x7_w58 x8_w58 x9_w58 x10_w58 r0_w58 r1_w58 r2_w58 r3_w58 r4_w58 r5_w58 r6_w58 r7_w58 r8_w58 r9_w58 r10_w58 xf_w58 rf_w58 xl_w58 rl_w58
    have x0_w63 : w63.cell? ⟨B8, 0, none⟩ = some (.int .i64 (4)) := HXw63.out.cell 0 rfl
    have x1_w63 : w63.cell? ⟨B8, 1, none⟩ = some (.string (v59)) := HXw63.out.cell 1 rfl
    have x2_w63 : w63.cell? ⟨B8, 2, none⟩ = some (.string (⟨#[]⟩)) := HXw63.out.cell 2 rfl
    have x3_w63 : w63.cell? ⟨B8, 3, none⟩ = some (.int .i64 (0)) := HXw63.out.cell 3 rfl
    have x4_w63 : w63.cell? ⟨B8, 4, none⟩ = some (.int .i64 (0)) := HXw63.out.cell 4 rfl
    have x5_w63 : w63.cell? ⟨B8, 5, none⟩ = some (.int .i64 (0)) := HXw63.out.cell 5 rfl
    have x6_w63 : w63.cell? ⟨B8, 6, none⟩ = some (.string (⟨#[]⟩)) := HXw63.out.cell 6 rfl
    have x7_w63 : w63.cell? ⟨B8, 7, none⟩ = some (.slice none 0 0) := HXw63.out.cell 7 rfl
    have x8_w63 : w63.cell? ⟨B8, 8, none⟩ = some (.slice none 0 0) := HXw63.out.cell 8 rfl
    have x9_w63 : w63.cell? ⟨B8, 9, none⟩ = some (.slice none 0 0) := HXw63.out.cell 9 rfl
    have x10_w63 : w63.cell? ⟨B8, 10, none⟩ = some (.complex .f64 X Y) := HXw63.out.cell 10 rfl
    have r0_w63 : w63.cell? ⟨w.heap.size, 0, none⟩ = some (.int .i64 (0)) := HZw63.out.cell 0 rfl
    have r1_w63 : w63.cell? ⟨w.heap.size, 1, none⟩ = some (.string (⟨#[]⟩)) := HZw63.out.cell 1 rfl
    have r2_w63 : w63.cell? ⟨w.heap.size, 2, none⟩ = some (.string (⟨#[]⟩)) := HZw63.out.cell 2 rfl
    have r3_w63 : w63.cell? ⟨w.heap.size, 3, none⟩ = some (.int .i64 (0)) := HZw63.out.cell 3 rfl
    have r4_w63 : w63.cell? ⟨w.heap.size, 4, none⟩ = some (.int .i64 (0)) := HZw63.out.cell 4 rfl
    have r5_w63 : w63.cell? ⟨w.heap.size, 5, none⟩ = some (.int .i64 (0)) := HZw63.out.cell 5 rfl
    have r6_w63 : w63.cell? ⟨w.heap.size, 6, none⟩ = some (.string (⟨#[]⟩)) := HZw63.out.cell 6 rfl
    have r7_w63 : w63.cell? ⟨w.heap.size, 7, none⟩ = some (.slice none 0 0) := HZw63.out.cell 7 rfl
    have r8_w63 : w63.cell? ⟨w.heap.size, 8, none⟩ = some (.slice none 0 0) := HZw63.out.cell 8 rfl
    have r9_w63 : w63.cell? ⟨w.heap.size, 9, none⟩ = some (.slice none 0 0) := HZw63.out.cell 9 rfl
    have r10_w63 : w63.cell? ⟨w.heap.size, 10, none⟩ = some (.complex .f64 0 0) := HZw63.out.cell 10 rfl
    have xf_w63 : ∀ j, w63.frozen? ⟨B8, j, none⟩ = false := HXw63.out.fz
    have rf_w63 : ∀ j, w63.frozen? ⟨w.heap.size, j, none⟩ = false := HZw63.out.fz
    have xl_w63 : B8 < w63.heap.size := HXw63.out.lt
    have rl_w63 : w.heap.size < w63.heap.size := HZw63.out.lt
    obtain ⟨V64, hV64⟩ : ∃ W, ((((w63).setCell ⟨B8, 4, none⟩ (.int .i64 0)).setCell ⟨B8, 5, none⟩ (.int .i64 0)).setCell ⟨B8, 6, none⟩ (.string ⟨#[]⟩)).setCell ⟨B8, 7, none⟩ (.slice none 0 0) = W := ⟨_, rfl⟩
    have HXV64 : Hid (BoxS V64 B8 (⟨4, v59, ⟨#[]⟩, 0, 0, 0, ⟨#[]⟩, none, 0, 0, none, 0, 0, none, 0, 0, X, Y⟩ : Sv).cells) := by rw [← hV64]; exact ((HXw63.out).setv 4 [.int .i64 0, .int .i64 0, .string ⟨#[]⟩, .slice none 0 0] (⟨4, v59, ⟨#[]⟩, 0, 0, 0, ⟨#[]⟩, none, 0, 0, none, 0, 0, none, 0, 0, X, Y⟩ : Sv).cells (by show 4 + 4 ≤ 11; decide) rfl)
    have HZV64 : Hid (BoxS V64 w.heap.size (sv0 0 0).cells) := by rw [← hV64]; exact ((HZw63.out).apart hrB 4 [.int .i64 0, .int .i64 0, .string ⟨#[]⟩, .slice none 0 0])
    have HBV64 : Hid (But R w V64) := by rw [← hV64]; exact ((HBw63.out).sets (B := B8) (by omega) 4 [.int .i64 0, .int .i64 0, .string ⟨#[]⟩, .slice none 0 0])
    have HTV64 : Hid (BoxS V64 (w.heap.size + 1) [.int .i64 ((1 : Nat) : Int), .string TX, .int .i64 (nn : Int), .int .i64 (aa : Int)]) := by rw [← hV64]; exact ((HTw63.out).apart htB 4 [.int .i64 0, .int .i64 0, .string ⟨#[]⟩, .slice none 0 0])
    have uV64 : V64.cell? ⟨w.heap.size + 1, 1, none⟩ = some (.string TX) := HTV64.out.cell 1 rfl
    have HQV64 : Hid (Rq V64 R g cap ts (a + 1) true (a + 1)) := by rw [← hV64]; exact ((HQw63.out).sets hBR hBg 4 [.int .i64 0, .int .i64 0, .string ⟨#[]⟩, .slice none 0 0])
    have x0_V64 : V64.cell? ⟨B8, 0, none⟩ = some (.int .i64 (4)) := HXV64.out.cell 0 rfl
    have x1_V64 : V64.cell? ⟨B8, 1, none⟩ = some (.string (v59)) := HXV64.out.cell 1 rfl
    have x2_V64 : V64.cell? ⟨B8, 2, none⟩ = some (.string (⟨#[]⟩)) := HXV64.out.cell 2 rfl
    have x3_V64 : V64.cell? ⟨B8, 3, none⟩ = some (.int .i64 (0)) := HXV64.out.cell 3 rfl
    have x4_V64 : V64.cell? ⟨B8, 4, none⟩ = some (.int .i64 (0)) := HXV64.out.cell 4 rfl
    have x5_V64 : V64.cell? ⟨B8, 5, none⟩ = some (.int .i64 (0)) := HXV64.out.cell 5 rfl
    have x6_V64 : V64.cell? ⟨B8, 6, none⟩ = some (.string (⟨#[]⟩)) := HXV64.out.cell 6 rfl
    have x7_V64 : V64.cell? ⟨B8, 7, none⟩ = some (.slice none 0 0) := HXV64.out.cell 7 rfl
    have x8_V64 : V64.cell? ⟨B8, 8, none⟩ = some (.slice none 0 0) := HXV64.out.cell 8 rfl
    have x9_V64 : V64.cell? ⟨B8, 9, none⟩ = some (.slice none 0 0) := HXV64.out.cell 9 rfl
    have x10_V64 : V64.cell? ⟨B8, 10, none⟩ = some (.complex .f64 X Y) := HXV64.out.cell 10 rfl
    have r0_V64 : V64.cell? ⟨w.heap.size, 0, none⟩ = some (.int .i64 (0)) := HZV64.out.cell 0 rfl
    have r1_V64 : V64.cell? ⟨w.heap.size, 1, none⟩ = some (.string (⟨#[]⟩)) := HZV64.out.cell 1 rfl
    have r2_V64 : V64.cell? ⟨w.heap.size, 2, none⟩ = some (.string (⟨#[]⟩)) := HZV64.out.cell 2 rfl
    have r3_V64 : V64.cell? ⟨w.heap.size, 3, none⟩ = some (.int .i64 (0)) := HZV64.out.cell 3 rfl
    have r4_V64 : V64.cell? ⟨w.heap.size, 4, none⟩ = some (.int .i64 (0)) := HZV64.out.cell 4 rfl
    have r5_V64 : V64.cell? ⟨w.heap.size, 5, none⟩ = some (.int .i64 (0)) := HZV64.out.cell 5 rfl
    have r6_V64 : V64.cell? ⟨w.heap.size, 6, none⟩ = some (.string (⟨#[]⟩)) := HZV64.out.cell 6 rfl
    have r7_V64 : V64.cell? ⟨w.heap.size, 7, none⟩ = some (.slice none 0 0) := HZV64.out.cell 7 rfl
    have r8_V64 : V64.cell? ⟨w.heap.size, 8, none⟩ = some (.slice none 0 0) := HZV64.out.cell 8 rfl
    have r9_V64 : V64.cell? ⟨w.heap.size, 9, none⟩ = some (.slice none 0 0) := HZV64.out.cell 9 rfl
    have r10_V64 : V64.cell? ⟨w.heap.size, 10, none⟩ = some (.complex .f64 0 0) := HZV64.out.cell 10 rfl
    have xf_V64 : ∀ j, V64.frozen? ⟨B8, j, none⟩ = false := HXV64.out.fz
    have rf_V64 : ∀ j, V64.frozen? ⟨w.heap.size, j, none⟩ = false := HZV64.out.fz
    have xl_V64 : B8 < V64.heap.size := HXV64.out.lt
    have rl_V64 : w.heap.size < V64.heap.size := HZV64.out.lt
    go_wp2_with fail
    obtain ⟨hO1, hO2⟩ := HPO61.out
    subst hO1 hO2
    refine reds_end (⟨4, v59, ⟨#[]⟩, 0, 0, 0, ⟨#[]⟩, none, 0, 0, none, 0, 0, none, 0, 0, X, Y⟩ : Sv) rfl HZV64.out HBV64.out hRw HGW.out ?hsome (fun _ => ⟨(a + 1), HA2.out, ?_⟩)
    case hsome => exact fun x hx => by cases hx
    rw [show ts.length - (left ts (a + 1)).length = (a + 1) by rw [left_len]; have := HA2.out; omega]
    exact HQV64.out
end Go.Proofs.Ytnfkjmafhaecgaa
