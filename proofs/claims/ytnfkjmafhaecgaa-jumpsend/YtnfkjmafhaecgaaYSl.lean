/- Sl -/
import Derived.Test.YtnfkjmafhaecgaaYSa

namespace Go.Proofs.Ytnfkjmafhaecgaa
open Go.RowKit
attribute [local go_sem] run_store_complex
set_option maxRecDepth 100000 in
set_option maxHeartbeats 8000000 in
theorem rstmt_lock (deep : Int) (blk : Pp.Pl → Pp.R (List St)) {R g cap : Nat} {s : ByteArray} {ts : List Lx.Tk} {a bad : Nat} {w : World} (h : Rq w R g cap ts a false bad) (hal : Pp.Alive (left ts a)) (hok : TkOk s ts) (o : Option St) (m : List Lx.Core) (htx : (Px.hd (left ts a)).2.1 = [108, 111, 99, 107]) (hp : Pp.stmt (plOf s ts) (blk (plOf s ts)) (left ts a) = (o, m)) :
    Calls Try.prog 62 #[.pointer (some ⟨R, 0, none⟩), .string s, .int .i64 deep] w fun e w' => RedS R g cap ts bad w o m e w' := by
  have ha := alive_lt hal
  have HR : Hid (Rq w R g cap ts a false bad) := h
  have hRw := h.rlt
  have hgw := h.lt
  have c0 := h.c0
  have c1 := h.c1
  have z1 := h.z 1
  have hf := h.few
  have hwr : IntKind.i64.wrap ((a : Int) + 1) = (a : Int) + 1 := by rw [IntKind.wrap_i64]; omega
  have hhd := hd_in ts a ha
  rw [hhd] at htx
  replace htx : Hid (ts[a].text = [108, 111, 99, 107]) := htx
  have hmem := List.getElem_mem ha
  have hw1 : ts[a].kind = 1 → Lx.isWord ts[a].text = true := hok.fit _ hmem
  have hkd : Hid (ts[a].kind = kindOf ts[a].text) := hok.kd _ hmem
  have HPL : Hid (∀ W, Calls Try.prog 50 #[.string s, .int .i64 (ts[a].at' : Int)] W fun e w' => e = .returned (.complex .f64 (lineW s ts[a].at') (colW s ts[a].at')) ∧ w' = W) := fun W => place_in s _ hok.sz (hok.at' _ hmem) W
  have hpl : plOf s ts (left ts a).length = (lineW s ts[a].at', colW s ts[a].at') := plOf_at s ts a ha
  obtain ⟨t0, t1, t2, t3⟩ := h.tok a ha
  have hai : (a : Int) < (ts.length : Int) := by omega
  have HA : Hid (a < ts.length) := ha
  have HAL : Hid (Pp.Alive (left ts a)) := hal
  have HOK : Hid (TkOk s ts) := hok
  have HHD : Hid _ := hhd
  have HPP : Hid _ := hpl
  unfold Pp.stmt at hp
  rw [hpl, hhd] at hp
  generalize lineW s ts[a].at' = X at *
  generalize colW s ts[a].at' = Y at *
  generalize ts[a].kind = kd at *
  generalize ts[a].text = tx at *
  generalize ts[a].n = nn at *
  generalize ts[a].at' = aa at *
  obtain ⟨N, hN⟩ : ∃ N, ts.length = N := ⟨_, rfl⟩
  have HN : Hid (ts.length = N) := hN
  rw [hN] at c0 hf hai
  clear h hal hok ha hN hmem hpl
  go_enter Try.func62, Try.ntmps62
  go_wp2_with fail
  go_region
  obtain ⟨W1, hW1⟩ : ∃ W1, ((sz w).alloc (.cells #[.int .i64 (kd : Int), .string (Px.ba tx), .int .i64 (nn : Int), .int .i64 (aa : Int)] 99)).drew = W1 := ⟨_, rfl⟩
  have hkw : Kept w (sz w) := (Kept.refl _).al _
  have hk1 : Kept (sz w) W1 := by rw [← hW1]; exact ((Kept.refl _).al _).dr
  have KW1 : Hid (Kept w W1) := hkw.then hk1
  have hbz : BoxS W1 w.heap.size (sv0 0 0).cells := (box_of (heap_alloc_new w _)).kept hk1
  have hbt : BoxS W1 (w.heap.size + 1) [.int .i64 (kd : Int), .string (Px.ba tx), .int .i64 (nn : Int), .int .i64 (aa : Int)] := by
    have h1 : BoxS ((sz w).alloc (.cells #[.int .i64 (kd : Int), .string (Px.ba tx), .int .i64 (nn : Int), .int .i64 (aa : Int)] 99)) (sz w).heap.size [.int .i64 (kd : Int), .string (Px.ba tx), .int .i64 (nn : Int), .int .i64 (aa : Int)] := box_of (heap_alloc_new (sz w) _)
    rw [show (sz w).heap.size = w.heap.size + 1 by simp] at h1
    rw [← hW1]
    exact h1.kept (Kept.refl _).dr
  have u3 : W1.cell? ⟨w.heap.size + 1, 3, none⟩ = some (.int .i64 (aa : Int)) := hbt.cell 3 rfl
  have hlt1 : w.heap.size + 1 < W1.heap.size := hbt.lt
  rw [hW1]
  clear hW1 hk1 hkw c0 t0 t1 t2 t3
  go_wp2_with fail
  refine (HPL.out _).mono ?_
  rintro e W1 ⟨rfl, rfl⟩
  obtain ⟨B8, hB8⟩ : ∃ B, W1.heap.size = B := ⟨_, rfl⟩
  obtain ⟨W2, hW2⟩ : ∃ W, W1.alloc (.cells #[.int .i64 0, .string ⟨#[]⟩, .string ⟨#[]⟩, .int .i64 0, .int .i64 0, .int .i64 0, .string ⟨#[]⟩, .slice none 0 0, .slice none 0 0, .slice none 0 0, .complex .f64 X Y] 46) = W := ⟨_, rfl⟩
  have hk2 : Kept W1 W2 := by rw [← hW2]; exact (Kept.refl _).al _
  have KW2 : Hid (Kept w W2) := KW1.out.then hk2
  have HQ2 : Hid (Rq W2 R g cap ts a false bad) := HR.out.kept KW2.out
  have hx : BoxS W2 B8 (⟨0, ⟨#[]⟩, ⟨#[]⟩, 0, 0, 0, ⟨#[]⟩, none, 0, 0, none, 0, 0, none, 0, 0, X, Y⟩ : Sv).cells := by rw [← hW2, ← hB8]; exact box_of (heap_alloc_new W1 _)
  have HXW2 : Hid (BoxS W2 B8 (⟨0, ⟨#[]⟩, ⟨#[]⟩, 0, 0, 0, ⟨#[]⟩, none, 0, 0, none, 0, 0, none, 0, 0, X, Y⟩ : Sv).cells) := hx
  have hzz : BoxS W2 w.heap.size (sv0 0 0).cells := hbz.kept hk2
  have HZW2 : Hid (BoxS W2 w.heap.size (sv0 0 0).cells) := hzz
  have x0 : W2.cell? ⟨B8, 0, none⟩ = some (.int .i64 (0)) := hx.cell 0 rfl
  have x1 : W2.cell? ⟨B8, 1, none⟩ = some (.string (⟨#[]⟩)) := hx.cell 1 rfl
  have x2 : W2.cell? ⟨B8, 2, none⟩ = some (.string (⟨#[]⟩)) := hx.cell 2 rfl
  have x3 : W2.cell? ⟨B8, 3, none⟩ = some (.int .i64 (0)) := hx.cell 3 rfl
  have x4 : W2.cell? ⟨B8, 4, none⟩ = some (.int .i64 (0)) := hx.cell 4 rfl
  have x5 : W2.cell? ⟨B8, 5, none⟩ = some (.int .i64 (0)) := hx.cell 5 rfl
  have x6 : W2.cell? ⟨B8, 6, none⟩ = some (.string (⟨#[]⟩)) := hx.cell 6 rfl
  have x7 : W2.cell? ⟨B8, 7, none⟩ = some (.slice none 0 0) := hx.cell 7 rfl
  have x8 : W2.cell? ⟨B8, 8, none⟩ = some (.slice none 0 0) := hx.cell 8 rfl
  have x9 : W2.cell? ⟨B8, 9, none⟩ = some (.slice none 0 0) := hx.cell 9 rfl
  have x10 : W2.cell? ⟨B8, 10, none⟩ = some (.complex .f64 X Y) := hx.cell 10 rfl
  have r0 : W2.cell? ⟨w.heap.size, 0, none⟩ = some (.int .i64 (0)) := hzz.cell 0 rfl
  have r1 : W2.cell? ⟨w.heap.size, 1, none⟩ = some (.string (⟨#[]⟩)) := hzz.cell 1 rfl
  have r2 : W2.cell? ⟨w.heap.size, 2, none⟩ = some (.string (⟨#[]⟩)) := hzz.cell 2 rfl
  have r3 : W2.cell? ⟨w.heap.size, 3, none⟩ = some (.int .i64 (0)) := hzz.cell 3 rfl
  have r4 : W2.cell? ⟨w.heap.size, 4, none⟩ = some (.int .i64 (0)) := hzz.cell 4 rfl
  have r5 : W2.cell? ⟨w.heap.size, 5, none⟩ = some (.int .i64 (0)) := hzz.cell 5 rfl
  have r6 : W2.cell? ⟨w.heap.size, 6, none⟩ = some (.string (⟨#[]⟩)) := hzz.cell 6 rfl
  have r7 : W2.cell? ⟨w.heap.size, 7, none⟩ = some (.slice none 0 0) := hzz.cell 7 rfl
  have r8 : W2.cell? ⟨w.heap.size, 8, none⟩ = some (.slice none 0 0) := hzz.cell 8 rfl
  have r9 : W2.cell? ⟨w.heap.size, 9, none⟩ = some (.slice none 0 0) := hzz.cell 9 rfl
  have r10 : W2.cell? ⟨w.heap.size, 10, none⟩ = some (.complex .f64 0 0) := hzz.cell 10 rfl
  have xf : ∀ j, W2.frozen? ⟨B8, j, none⟩ = false := hx.fz
  have rf : ∀ j, W2.frozen? ⟨w.heap.size, j, none⟩ = false := hzz.fz
  have xl : B8 < W2.heap.size := hx.lt
  have rl : w.heap.size < W2.heap.size := hzz.lt
  clear hx hzz
  have htk : BoxS W2 (w.heap.size + 1) [.int .i64 (kd : Int), .string (Px.ba tx), .int .i64 (nn : Int), .int .i64 (aa : Int)] := hbt.kept hk2
  have HTW2 : Hid (BoxS W2 (w.heap.size + 1) [.int .i64 (kd : Int), .string (Px.ba tx), .int .i64 (nn : Int), .int .i64 (aa : Int)]) := htk
  have u0 : W2.cell? ⟨w.heap.size + 1, 0, none⟩ = some (.int .i64 (kd : Int)) := htk.cell 0 rfl
  have u1 : W2.cell? ⟨w.heap.size + 1, 1, none⟩ = some (.string (Px.ba tx)) := htk.cell 1 rfl
  clear htk
  have hR2 := HQ2.out.rlt
  replace c1 := HQ2.out.c1
  replace z1 := HQ2.out.z 1
  have hBR : B8 ≠ R := by omega
  have hBg : B8 ≠ g := by omega
  have hBw : w.heap.size + 1 < B8 := by omega
  have hrR : w.heap.size ≠ R := by omega
  have htR : w.heap.size + 1 ≠ R := by omega
  have hrB : w.heap.size ≠ B8 := by omega
  have htB : w.heap.size + 1 ≠ B8 := by omega
  have HGW : Hid (g < w.heap.size) := hgw
  have LF : Hid (ts.length - (left ts a).length = a) := by show _ = _; rw [left_len]; have := HA.out; omega
  clear hbz hbt u3 hk2 hgw hlt1
  have h1 : kd = 1 := by rw [hkd.out, htx.out]; decide
  have hal2 : Pp.Alive (left ts (a + 1)) := by
    have := HAL.out.tail (.inl (by rw [hhd, h1]; show (1 : Nat) ≠ 4; decide))
    rwa [left_tail] at this
  have HAL2 : Hid (Pp.Alive (left ts (a + 1))) := hal2
  have HA2 : Hid (a + 1 < ts.length) := alive_lt hal2
  obtain ⟨W3, hW3⟩ : ∃ W, W2.setCell ⟨R, 1, none⟩ (.int .i64 ((a : Int) + 1)) = W := ⟨_, rfl⟩
  have hq3 := HQ2.out.at' (a + 1) (Nat.le_of_lt HA2.out)
  rw [show ((a + 1 : Nat) : Int) = (a : Int) + 1 by omega, hW3] at hq3
  have HQW3 : Hid (Rq W3 R g cap ts (a + 1) false bad) := hq3
  have hb23 : But R W2 W3 := by rw [← hW3]; exact (But.refl _ _).set _ _
  have HBW3 : Hid (But R w W3) := (But.of KW2.out).then hb23
  have HXW3 : Hid (BoxS W3 B8 (⟨0, ⟨#[]⟩, ⟨#[]⟩, 0, 0, 0, ⟨#[]⟩, none, 0, 0, none, 0, 0, none, 0, 0, X, Y⟩ : Sv).cells) := HXW2.out.but hb23 hBR
  have HZW3 : Hid (BoxS W3 w.heap.size (sv0 0 0).cells) := HZW2.out.but hb23 hrR
  have HTW3 : Hid (BoxS W3 (w.heap.size + 1) [.int .i64 (kd : Int), .string (Px.ba tx), .int .i64 (nn : Int), .int .i64 (aa : Int)]) := HTW2.out.but hb23 htR
  subst h1
  clear hq3 hb23 hal2 hw1 x0 x1 x2 x3 x4 x5 x6 x7 x8 x9 x10 r0 r1 r2 r3 r4 r5 r6 r7 r8 r9 r10 xf rf xl rl
  have htx1 := htx.out
  subst htx1
  clear htx
  have hP : Pp.bind Pp.name (fun a => Pp.ret (St.mk 2 (Px.ba a) Px.e0 0 ex0 [] [] X Y)) (left ts (a + 1)) = (o, m) := by
    have : Pp.behind (blk (plOf s ts)) 2 (X, Y) (left ts a).tail = (o, m) := hp
    rw [left_tail] at this
    exact this
  clear hp hhd hkd
  have e0 : ((Px.ba [108, 111, 99, 107]).toList == [108, 111, 99, 107]) = true := by rw [show (Px.ba [108, 111, 99, 107]).toList = [108, 111, 99, 107] by rw [toList_data]; rfl]; decide
  have e1 : ((Px.ba [108, 111, 99, 107]).toList == [117, 110, 108, 111, 99, 107]) = false := by rw [show (Px.ba [108, 111, 99, 107]).toList = [108, 111, 99, 107] by rw [toList_data]; rfl]; decide
  have e2 : ((Px.ba [108, 111, 99, 107]).toList == [103, 111, 116, 111]) = false := by rw [show (Px.ba [108, 111, 99, 107]).toList = [108, 111, 99, 107] by rw [toList_data]; rfl]; decide
  have e3 : ((Px.ba [108, 111, 99, 107]).toList == [108, 97, 98, 101, 108]) = false := by rw [show (Px.ba [108, 111, 99, 107]).toList = [108, 111, 99, 107] by rw [toList_data]; rfl]; decide
  have e4 : ((Px.ba [108, 111, 99, 107]).toList == [115, 101, 110, 100]) = false := by rw [show (Px.ba [108, 111, 99, 107]).toList = [108, 111, 99, 107] by rw [toList_data]; rfl]; decide
  have e5 : ((Px.ba [108, 111, 99, 107]).toList == [114, 101, 99, 118]) = false := by rw [show (Px.ba [108, 111, 99, 107]).toList = [108, 111, 99, 107] by rw [toList_data]; rfl]; decide
  have e6 : ((Px.ba [108, 111, 99, 107]).toList == [112, 114, 105, 110, 116]) = false := by rw [show (Px.ba [108, 111, 99, 107]).toList = [108, 111, 99, 107] by rw [toList_data]; rfl]; decide
  have e7 : ((Px.ba [108, 111, 99, 107]).toList == [105, 102]) = false := by rw [show (Px.ba [108, 111, 99, 107]).toList = [108, 111, 99, 107] by rw [toList_data]; rfl]; decide
  have e8 : ((Px.ba [108, 111, 99, 107]).toList == [114, 101, 112, 101, 97, 116]) = false := by rw [show (Px.ba [108, 111, 99, 107]).toList = [108, 111, 99, 107] by rw [toList_data]; rfl]; decide
  generalize Px.ba [108, 111, 99, 107] = TX at *
  have x0_W3 : W3.cell? ⟨B8, 0, none⟩ = some (.int .i64 (0)) := HXW3.out.cell 0 rfl
  have x1_W3 : W3.cell? ⟨B8, 1, none⟩ = some (.string (⟨#[]⟩)) := HXW3.out.cell 1 rfl
  have x2_W3 : W3.cell? ⟨B8, 2, none⟩ = some (.string (⟨#[]⟩)) := HXW3.out.cell 2 rfl
  have x3_W3 : W3.cell? ⟨B8, 3, none⟩ = some (.int .i64 (0)) := HXW3.out.cell 3 rfl
  have x4_W3 : W3.cell? ⟨B8, 4, none⟩ = some (.int .i64 (0)) := HXW3.out.cell 4 rfl
  have x5_W3 : W3.cell? ⟨B8, 5, none⟩ = some (.int .i64 (0)) := HXW3.out.cell 5 rfl
  have x6_W3 : W3.cell? ⟨B8, 6, none⟩ = some (.string (⟨#[]⟩)) := HXW3.out.cell 6 rfl
  have x7_W3 : W3.cell? ⟨B8, 7, none⟩ = some (.slice none 0 0) := HXW3.out.cell 7 rfl
  have x8_W3 : W3.cell? ⟨B8, 8, none⟩ = some (.slice none 0 0) := HXW3.out.cell 8 rfl
  have x9_W3 : W3.cell? ⟨B8, 9, none⟩ = some (.slice none 0 0) := HXW3.out.cell 9 rfl
  have x10_W3 : W3.cell? ⟨B8, 10, none⟩ = some (.complex .f64 X Y) := HXW3.out.cell 10 rfl
  have r0_W3 : W3.cell? ⟨w.heap.size, 0, none⟩ = some (.int .i64 (0)) := HZW3.out.cell 0 rfl
  have r1_W3 : W3.cell? ⟨w.heap.size, 1, none⟩ = some (.string (⟨#[]⟩)) := HZW3.out.cell 1 rfl
  have r2_W3 : W3.cell? ⟨w.heap.size, 2, none⟩ = some (.string (⟨#[]⟩)) := HZW3.out.cell 2 rfl
  have r3_W3 : W3.cell? ⟨w.heap.size, 3, none⟩ = some (.int .i64 (0)) := HZW3.out.cell 3 rfl
  have r4_W3 : W3.cell? ⟨w.heap.size, 4, none⟩ = some (.int .i64 (0)) := HZW3.out.cell 4 rfl
  have r5_W3 : W3.cell? ⟨w.heap.size, 5, none⟩ = some (.int .i64 (0)) := HZW3.out.cell 5 rfl
  have r6_W3 : W3.cell? ⟨w.heap.size, 6, none⟩ = some (.string (⟨#[]⟩)) := HZW3.out.cell 6 rfl
  have r7_W3 : W3.cell? ⟨w.heap.size, 7, none⟩ = some (.slice none 0 0) := HZW3.out.cell 7 rfl
  have r8_W3 : W3.cell? ⟨w.heap.size, 8, none⟩ = some (.slice none 0 0) := HZW3.out.cell 8 rfl
  have r9_W3 : W3.cell? ⟨w.heap.size, 9, none⟩ = some (.slice none 0 0) := HZW3.out.cell 9 rfl
  have r10_W3 : W3.cell? ⟨w.heap.size, 10, none⟩ = some (.complex .f64 0 0) := HZW3.out.cell 10 rfl
  have xf_W3 : ∀ j, W3.frozen? ⟨B8, j, none⟩ = false := HXW3.out.fz
  have rf_W3 : ∀ j, W3.frozen? ⟨w.heap.size, j, none⟩ = false := HZW3.out.fz
  have xl_W3 : B8 < W3.heap.size := HXW3.out.lt
  have rl_W3 : w.heap.size < W3.heap.size := HZW3.out.lt
  replace u1 : W3.cell? ⟨w.heap.size + 1, 1, none⟩ = some (.string TX) := HTW3.out.cell 1 rfl
  obtain ⟨Wc, hWc⟩ : ∃ W, (W3).setCell ⟨B8, 0, none⟩ (.int .i64 2) = W := ⟨_, rfl⟩
  have HXWc : Hid (BoxS Wc B8 (⟨2, ⟨#[]⟩, ⟨#[]⟩, 0, 0, 0, ⟨#[]⟩, none, 0, 0, none, 0, 0, none, 0, 0, X, Y⟩ : Sv).cells) := by rw [← hWc]; exact ((HXW3.out).setv 0 [.int .i64 2] (⟨2, ⟨#[]⟩, ⟨#[]⟩, 0, 0, 0, ⟨#[]⟩, none, 0, 0, none, 0, 0, none, 0, 0, X, Y⟩ : Sv).cells (by show 0 + 1 ≤ 11; decide) rfl)
  have HZWc : Hid (BoxS Wc w.heap.size (sv0 0 0).cells) := by rw [← hWc]; exact ((HZW3.out).apart hrB 0 [.int .i64 2])
  have HBWc : Hid (But R w Wc) := by rw [← hWc]; exact ((HBW3.out).sets (B := B8) (by omega) 0 [.int .i64 2])
  have HTWc : Hid (BoxS Wc (w.heap.size + 1) [.int .i64 ((1 : Nat) : Int), .string TX, .int .i64 (nn : Int), .int .i64 (aa : Int)]) := by rw [← hWc]; exact ((HTW3.out).apart htB 0 [.int .i64 2])
  have uWc : Wc.cell? ⟨w.heap.size + 1, 1, none⟩ = some (.string TX) := HTWc.out.cell 1 rfl
  have hqc : Rq Wc R g cap ts (a + 1) false bad := by rw [← hWc]; exact ((HQW3.out).sets hBR hBg 0 [.int .i64 2])
  cases hnm : isNmT (Px.hd (left ts (a + 1))) with
  | true =>
    have NM : Hid _ := rname_any hqc HA2.out (HOK.out.fit _ (List.getElem_mem HA2.out)) true (by rw [hnm]; rfl)
    have HNM : Hid (isNmT (Px.hd (left ts (a + 1))) = true) := hnm
    have HPO : Hid _ := hP
    clear hqc hnm hP
    go_wp2_with fail
    refine Calls.mono NM.out ?_
    rintro e w4 ⟨⟨v, rfl, hv⟩, hbn, hz⟩
    have HV : Hid _ := hv
    have HZ4 : Hid _ := hz
    clear x0_W3 x1_W3 x2_W3 x3_W3 x4_W3 x5_W3 x6_W3 x7_W3 x8_W3 x9_W3 x10_W3 r0_W3 r1_W3 r2_W3 r3_W3 r4_W3 r5_W3 r6_W3 r7_W3 r8_W3 r9_W3 r10_W3 xf_W3 rf_W3 xl_W3 rl_W3
    have HXw4 : Hid (BoxS w4 B8 (⟨2, ⟨#[]⟩, ⟨#[]⟩, 0, 0, 0, ⟨#[]⟩, none, 0, 0, none, 0, 0, none, 0, 0, X, Y⟩ : Sv).cells) := HXWc.out.but hbn hBR
    have HZw4 : Hid (BoxS w4 w.heap.size (sv0 0 0).cells) := HZWc.out.but hbn hrR
    have HBw4 : Hid (But R w w4) := HBWc.out.then hbn
    have HTw4 : Hid (BoxS w4 (w.heap.size + 1) [.int .i64 ((1 : Nat) : Int), .string TX, .int .i64 (nn : Int), .int .i64 (aa : Int)]) := HTWc.out.but hbn htR
    clear hbn
    clear hv hz
    have x0_w4 : w4.cell? ⟨B8, 0, none⟩ = some (.int .i64 (2)) := HXw4.out.cell 0 rfl
    have x1_w4 : w4.cell? ⟨B8, 1, none⟩ = some (.string (⟨#[]⟩)) := HXw4.out.cell 1 rfl
    have x2_w4 : w4.cell? ⟨B8, 2, none⟩ = some (.string (⟨#[]⟩)) := HXw4.out.cell 2 rfl
    have x3_w4 : w4.cell? ⟨B8, 3, none⟩ = some (.int .i64 (0)) := HXw4.out.cell 3 rfl
    have x4_w4 : w4.cell? ⟨B8, 4, none⟩ = some (.int .i64 (0)) := HXw4.out.cell 4 rfl
    have x5_w4 : w4.cell? ⟨B8, 5, none⟩ = some (.int .i64 (0)) := HXw4.out.cell 5 rfl
    have x6_w4 : w4.cell? ⟨B8, 6, none⟩ = some (.string (⟨#[]⟩)) := HXw4.out.cell 6 rfl
    have x7_w4 : w4.cell? ⟨B8, 7, none⟩ = some (.slice none 0 0) := HXw4.out.cell 7 rfl
    have x8_w4 : w4.cell? ⟨B8, 8, none⟩ = some (.slice none 0 0) := HXw4.out.cell 8 rfl
    have x9_w4 : w4.cell? ⟨B8, 9, none⟩ = some (.slice none 0 0) := HXw4.out.cell 9 rfl
    have x10_w4 : w4.cell? ⟨B8, 10, none⟩ = some (.complex .f64 X Y) := HXw4.out.cell 10 rfl
    have r0_w4 : w4.cell? ⟨w.heap.size, 0, none⟩ = some (.int .i64 (0)) := HZw4.out.cell 0 rfl
    have r1_w4 : w4.cell? ⟨w.heap.size, 1, none⟩ = some (.string (⟨#[]⟩)) := HZw4.out.cell 1 rfl
    have r2_w4 : w4.cell? ⟨w.heap.size, 2, none⟩ = some (.string (⟨#[]⟩)) := HZw4.out.cell 2 rfl
    have r3_w4 : w4.cell? ⟨w.heap.size, 3, none⟩ = some (.int .i64 (0)) := HZw4.out.cell 3 rfl
    have r4_w4 : w4.cell? ⟨w.heap.size, 4, none⟩ = some (.int .i64 (0)) := HZw4.out.cell 4 rfl
    have r5_w4 : w4.cell? ⟨w.heap.size, 5, none⟩ = some (.int .i64 (0)) := HZw4.out.cell 5 rfl
    have r6_w4 : w4.cell? ⟨w.heap.size, 6, none⟩ = some (.string (⟨#[]⟩)) := HZw4.out.cell 6 rfl
    have r7_w4 : w4.cell? ⟨w.heap.size, 7, none⟩ = some (.slice none 0 0) := HZw4.out.cell 7 rfl
    have r8_w4 : w4.cell? ⟨w.heap.size, 8, none⟩ = some (.slice none 0 0) := HZw4.out.cell 8 rfl
    have r9_w4 : w4.cell? ⟨w.heap.size, 9, none⟩ = some (.slice none 0 0) := HZw4.out.cell 9 rfl
    have r10_w4 : w4.cell? ⟨w.heap.size, 10, none⟩ = some (.complex .f64 0 0) := HZw4.out.cell 10 rfl
    have xf_w4 : ∀ j, w4.frozen? ⟨B8, j, none⟩ = false := HXw4.out.fz
    have rf_w4 : ∀ j, w4.frozen? ⟨w.heap.size, j, none⟩ = false := HZw4.out.fz
    have xl_w4 : B8 < w4.heap.size := HXw4.out.lt
    have rl_w4 : w.heap.size < w4.heap.size := HZw4.out.lt
    obtain ⟨Wd, hWd⟩ : ∃ W, (w4).setCell ⟨B8, 1, none⟩ (.string v) = W := ⟨_, rfl⟩
    have HXWd : Hid (BoxS Wd B8 (⟨2, v, ⟨#[]⟩, 0, 0, 0, ⟨#[]⟩, none, 0, 0, none, 0, 0, none, 0, 0, X, Y⟩ : Sv).cells) := by rw [← hWd]; exact ((HXw4.out).setv 1 [.string v] (⟨2, v, ⟨#[]⟩, 0, 0, 0, ⟨#[]⟩, none, 0, 0, none, 0, 0, none, 0, 0, X, Y⟩ : Sv).cells (by show 1 + 1 ≤ 11; decide) rfl)
    have HZWd : Hid (BoxS Wd w.heap.size (sv0 0 0).cells) := by rw [← hWd]; exact ((HZw4.out).apart hrB 1 [.string v])
    have HBWd : Hid (But R w Wd) := by rw [← hWd]; exact ((HBw4.out).sets (B := B8) (by omega) 1 [.string v])
    have HTWd : Hid (BoxS Wd (w.heap.size + 1) [.int .i64 ((1 : Nat) : Int), .string TX, .int .i64 (nn : Int), .int .i64 (aa : Int)]) := by rw [← hWd]; exact ((HTw4.out).apart htB 1 [.string v])
    have uWd : Wd.cell? ⟨w.heap.size + 1, 1, none⟩ = some (.string TX) := HTWd.out.cell 1 rfl
    have x0_Wd : Wd.cell? ⟨B8, 0, none⟩ = some (.int .i64 (2)) := HXWd.out.cell 0 rfl
    have x1_Wd : Wd.cell? ⟨B8, 1, none⟩ = some (.string (v)) := HXWd.out.cell 1 rfl
    have x2_Wd : Wd.cell? ⟨B8, 2, none⟩ = some (.string (⟨#[]⟩)) := HXWd.out.cell 2 rfl
    have x3_Wd : Wd.cell? ⟨B8, 3, none⟩ = some (.int .i64 (0)) := HXWd.out.cell 3 rfl
    have x4_Wd : Wd.cell? ⟨B8, 4, none⟩ = some (.int .i64 (0)) := HXWd.out.cell 4 rfl
    have x5_Wd : Wd.cell? ⟨B8, 5, none⟩ = some (.int .i64 (0)) := HXWd.out.cell 5 rfl
    have x6_Wd : Wd.cell? ⟨B8, 6, none⟩ = some (.string (⟨#[]⟩)) := HXWd.out.cell 6 rfl
    have x7_Wd : Wd.cell? ⟨B8, 7, none⟩ = some (.slice none 0 0) := HXWd.out.cell 7 rfl
    have x8_Wd : Wd.cell? ⟨B8, 8, none⟩ = some (.slice none 0 0) := HXWd.out.cell 8 rfl
    have x9_Wd : Wd.cell? ⟨B8, 9, none⟩ = some (.slice none 0 0) := HXWd.out.cell 9 rfl
    have x10_Wd : Wd.cell? ⟨B8, 10, none⟩ = some (.complex .f64 X Y) := HXWd.out.cell 10 rfl
    have r0_Wd : Wd.cell? ⟨w.heap.size, 0, none⟩ = some (.int .i64 (0)) := HZWd.out.cell 0 rfl
    have r1_Wd : Wd.cell? ⟨w.heap.size, 1, none⟩ = some (.string (⟨#[]⟩)) := HZWd.out.cell 1 rfl
    have r2_Wd : Wd.cell? ⟨w.heap.size, 2, none⟩ = some (.string (⟨#[]⟩)) := HZWd.out.cell 2 rfl
    have r3_Wd : Wd.cell? ⟨w.heap.size, 3, none⟩ = some (.int .i64 (0)) := HZWd.out.cell 3 rfl
    have r4_Wd : Wd.cell? ⟨w.heap.size, 4, none⟩ = some (.int .i64 (0)) := HZWd.out.cell 4 rfl
    have r5_Wd : Wd.cell? ⟨w.heap.size, 5, none⟩ = some (.int .i64 (0)) := HZWd.out.cell 5 rfl
    have r6_Wd : Wd.cell? ⟨w.heap.size, 6, none⟩ = some (.string (⟨#[]⟩)) := HZWd.out.cell 6 rfl
    have r7_Wd : Wd.cell? ⟨w.heap.size, 7, none⟩ = some (.slice none 0 0) := HZWd.out.cell 7 rfl
    have r8_Wd : Wd.cell? ⟨w.heap.size, 8, none⟩ = some (.slice none 0 0) := HZWd.out.cell 8 rfl
    have r9_Wd : Wd.cell? ⟨w.heap.size, 9, none⟩ = some (.slice none 0 0) := HZWd.out.cell 9 rfl
    have r10_Wd : Wd.cell? ⟨w.heap.size, 10, none⟩ = some (.complex .f64 0 0) := HZWd.out.cell 10 rfl
    have xf_Wd : ∀ j, Wd.frozen? ⟨B8, j, none⟩ = false := HXWd.out.fz
    have rf_Wd : ∀ j, Wd.frozen? ⟨w.heap.size, j, none⟩ = false := HZWd.out.fz
    have xl_Wd : B8 < Wd.heap.size := HXWd.out.lt
    have rl_Wd : w.heap.size < Wd.heap.size := HZWd.out.lt
    go_wp2_with fail
    obtain ⟨hO1, hO2⟩ := name_yes HNM.out HPO.out
    subst hO1 hO2
    have hq : Rq Wd R g cap ts (a + 1 + 1) false bad := by rw [← hWd]; exact (Rz_yes HZ4.out).sets hBR hBg 1 [.string v]
    have hv := HV.out trivial
    refine reds_end (⟨2, v, ⟨#[]⟩, 0, 0, 0, ⟨#[]⟩, none, 0, 0, none, 0, 0, none, 0, 0, X, Y⟩ : Sv) rfl HZWd.out HBWd.out hRw HGW.out (fun x hx => ?_) (fun hx => by cases hx)
    cases hx
    refine ⟨⟨rfl, hv, rfl, rfl, rfl, rfl, rfl, rfl, rfl, ExsD.nil _ _, StsD.nil' _ _, StsD.nil' _ _⟩, ?_⟩
    rw [left_tail, left_len, show ts.length - (ts.length - (a + 1 + 1)) = a + 1 + 1 by have := HA2.out; omega]
    exact hq
  | false =>
    have NM : Hid _ := rname_any hqc HA2.out (HOK.out.fit _ (List.getElem_mem HA2.out)) false (by rw [hnm]; rfl)
    have HNM : Hid (isNmT (Px.hd (left ts (a + 1))) = false) := hnm
    have HPO : Hid _ := hP
    clear hqc hnm hP
    go_wp2_with fail
    refine Calls.mono NM.out ?_
    rintro e w4 ⟨⟨v, rfl, hv⟩, hbn, hz⟩
    have HV : Hid _ := hv
    have HZ4 : Hid _ := hz
    clear x0_W3 x1_W3 x2_W3 x3_W3 x4_W3 x5_W3 x6_W3 x7_W3 x8_W3 x9_W3 x10_W3 r0_W3 r1_W3 r2_W3 r3_W3 r4_W3 r5_W3 r6_W3 r7_W3 r8_W3 r9_W3 r10_W3 xf_W3 rf_W3 xl_W3 rl_W3
    have HXw4 : Hid (BoxS w4 B8 (⟨2, ⟨#[]⟩, ⟨#[]⟩, 0, 0, 0, ⟨#[]⟩, none, 0, 0, none, 0, 0, none, 0, 0, X, Y⟩ : Sv).cells) := HXWc.out.but hbn hBR
    have HZw4 : Hid (BoxS w4 w.heap.size (sv0 0 0).cells) := HZWc.out.but hbn hrR
    have HBw4 : Hid (But R w w4) := HBWc.out.then hbn
    have HTw4 : Hid (BoxS w4 (w.heap.size + 1) [.int .i64 ((1 : Nat) : Int), .string TX, .int .i64 (nn : Int), .int .i64 (aa : Int)]) := HTWc.out.but hbn htR
    clear hbn
    clear hv hz
    have x0_w4 : w4.cell? ⟨B8, 0, none⟩ = some (.int .i64 (2)) := HXw4.out.cell 0 rfl
    have x1_w4 : w4.cell? ⟨B8, 1, none⟩ = some (.string (⟨#[]⟩)) := HXw4.out.cell 1 rfl
    have x2_w4 : w4.cell? ⟨B8, 2, none⟩ = some (.string (⟨#[]⟩)) := HXw4.out.cell 2 rfl
    have x3_w4 : w4.cell? ⟨B8, 3, none⟩ = some (.int .i64 (0)) := HXw4.out.cell 3 rfl
    have x4_w4 : w4.cell? ⟨B8, 4, none⟩ = some (.int .i64 (0)) := HXw4.out.cell 4 rfl
    have x5_w4 : w4.cell? ⟨B8, 5, none⟩ = some (.int .i64 (0)) := HXw4.out.cell 5 rfl
    have x6_w4 : w4.cell? ⟨B8, 6, none⟩ = some (.string (⟨#[]⟩)) := HXw4.out.cell 6 rfl
    have x7_w4 : w4.cell? ⟨B8, 7, none⟩ = some (.slice none 0 0) := HXw4.out.cell 7 rfl
    have x8_w4 : w4.cell? ⟨B8, 8, none⟩ = some (.slice none 0 0) := HXw4.out.cell 8 rfl
    have x9_w4 : w4.cell? ⟨B8, 9, none⟩ = some (.slice none 0 0) := HXw4.out.cell 9 rfl
    have x10_w4 : w4.cell? ⟨B8, 10, none⟩ = some (.complex .f64 X Y) := HXw4.out.cell 10 rfl
    have r0_w4 : w4.cell? ⟨w.heap.size, 0, none⟩ = some (.int .i64 (0)) := HZw4.out.cell 0 rfl
    have r1_w4 : w4.cell? ⟨w.heap.size, 1, none⟩ = some (.string (⟨#[]⟩)) := HZw4.out.cell 1 rfl
    have r2_w4 : w4.cell? ⟨w.heap.size, 2, none⟩ = some (.string (⟨#[]⟩)) := HZw4.out.cell 2 rfl
    have r3_w4 : w4.cell? ⟨w.heap.size, 3, none⟩ = some (.int .i64 (0)) := HZw4.out.cell 3 rfl
    have r4_w4 : w4.cell? ⟨w.heap.size, 4, none⟩ = some (.int .i64 (0)) := HZw4.out.cell 4 rfl
    have r5_w4 : w4.cell? ⟨w.heap.size, 5, none⟩ = some (.int .i64 (0)) := HZw4.out.cell 5 rfl
    have r6_w4 : w4.cell? ⟨w.heap.size, 6, none⟩ = some (.string (⟨#[]⟩)) := HZw4.out.cell 6 rfl
    have r7_w4 : w4.cell? ⟨w.heap.size, 7, none⟩ = some (.slice none 0 0) := HZw4.out.cell 7 rfl
    have r8_w4 : w4.cell? ⟨w.heap.size, 8, none⟩ = some (.slice none 0 0) := HZw4.out.cell 8 rfl
    have r9_w4 : w4.cell? ⟨w.heap.size, 9, none⟩ = some (.slice none 0 0) := HZw4.out.cell 9 rfl
    have r10_w4 : w4.cell? ⟨w.heap.size, 10, none⟩ = some (.complex .f64 0 0) := HZw4.out.cell 10 rfl
    have xf_w4 : ∀ j, w4.frozen? ⟨B8, j, none⟩ = false := HXw4.out.fz
    have rf_w4 : ∀ j, w4.frozen? ⟨w.heap.size, j, none⟩ = false := HZw4.out.fz
    have xl_w4 : B8 < w4.heap.size := HXw4.out.lt
    have rl_w4 : w.heap.size < w4.heap.size := HZw4.out.lt
    obtain ⟨Wd, hWd⟩ : ∃ W, (w4).setCell ⟨B8, 1, none⟩ (.string v) = W := ⟨_, rfl⟩
    have HXWd : Hid (BoxS Wd B8 (⟨2, v, ⟨#[]⟩, 0, 0, 0, ⟨#[]⟩, none, 0, 0, none, 0, 0, none, 0, 0, X, Y⟩ : Sv).cells) := by rw [← hWd]; exact ((HXw4.out).setv 1 [.string v] (⟨2, v, ⟨#[]⟩, 0, 0, 0, ⟨#[]⟩, none, 0, 0, none, 0, 0, none, 0, 0, X, Y⟩ : Sv).cells (by show 1 + 1 ≤ 11; decide) rfl)
    have HZWd : Hid (BoxS Wd w.heap.size (sv0 0 0).cells) := by rw [← hWd]; exact ((HZw4.out).apart hrB 1 [.string v])
    have HBWd : Hid (But R w Wd) := by rw [← hWd]; exact ((HBw4.out).sets (B := B8) (by omega) 1 [.string v])
    have HTWd : Hid (BoxS Wd (w.heap.size + 1) [.int .i64 ((1 : Nat) : Int), .string TX, .int .i64 (nn : Int), .int .i64 (aa : Int)]) := by rw [← hWd]; exact ((HTw4.out).apart htB 1 [.string v])
    have uWd : Wd.cell? ⟨w.heap.size + 1, 1, none⟩ = some (.string TX) := HTWd.out.cell 1 rfl
    have x0_Wd : Wd.cell? ⟨B8, 0, none⟩ = some (.int .i64 (2)) := HXWd.out.cell 0 rfl
    have x1_Wd : Wd.cell? ⟨B8, 1, none⟩ = some (.string (v)) := HXWd.out.cell 1 rfl
    have x2_Wd : Wd.cell? ⟨B8, 2, none⟩ = some (.string (⟨#[]⟩)) := HXWd.out.cell 2 rfl
    have x3_Wd : Wd.cell? ⟨B8, 3, none⟩ = some (.int .i64 (0)) := HXWd.out.cell 3 rfl
    have x4_Wd : Wd.cell? ⟨B8, 4, none⟩ = some (.int .i64 (0)) := HXWd.out.cell 4 rfl
    have x5_Wd : Wd.cell? ⟨B8, 5, none⟩ = some (.int .i64 (0)) := HXWd.out.cell 5 rfl
    have x6_Wd : Wd.cell? ⟨B8, 6, none⟩ = some (.string (⟨#[]⟩)) := HXWd.out.cell 6 rfl
    have x7_Wd : Wd.cell? ⟨B8, 7, none⟩ = some (.slice none 0 0) := HXWd.out.cell 7 rfl
    have x8_Wd : Wd.cell? ⟨B8, 8, none⟩ = some (.slice none 0 0) := HXWd.out.cell 8 rfl
    have x9_Wd : Wd.cell? ⟨B8, 9, none⟩ = some (.slice none 0 0) := HXWd.out.cell 9 rfl
    have x10_Wd : Wd.cell? ⟨B8, 10, none⟩ = some (.complex .f64 X Y) := HXWd.out.cell 10 rfl
    have r0_Wd : Wd.cell? ⟨w.heap.size, 0, none⟩ = some (.int .i64 (0)) := HZWd.out.cell 0 rfl
    have r1_Wd : Wd.cell? ⟨w.heap.size, 1, none⟩ = some (.string (⟨#[]⟩)) := HZWd.out.cell 1 rfl
    have r2_Wd : Wd.cell? ⟨w.heap.size, 2, none⟩ = some (.string (⟨#[]⟩)) := HZWd.out.cell 2 rfl
    have r3_Wd : Wd.cell? ⟨w.heap.size, 3, none⟩ = some (.int .i64 (0)) := HZWd.out.cell 3 rfl
    have r4_Wd : Wd.cell? ⟨w.heap.size, 4, none⟩ = some (.int .i64 (0)) := HZWd.out.cell 4 rfl
    have r5_Wd : Wd.cell? ⟨w.heap.size, 5, none⟩ = some (.int .i64 (0)) := HZWd.out.cell 5 rfl
    have r6_Wd : Wd.cell? ⟨w.heap.size, 6, none⟩ = some (.string (⟨#[]⟩)) := HZWd.out.cell 6 rfl
    have r7_Wd : Wd.cell? ⟨w.heap.size, 7, none⟩ = some (.slice none 0 0) := HZWd.out.cell 7 rfl
    have r8_Wd : Wd.cell? ⟨w.heap.size, 8, none⟩ = some (.slice none 0 0) := HZWd.out.cell 8 rfl
    have r9_Wd : Wd.cell? ⟨w.heap.size, 9, none⟩ = some (.slice none 0 0) := HZWd.out.cell 9 rfl
    have r10_Wd : Wd.cell? ⟨w.heap.size, 10, none⟩ = some (.complex .f64 0 0) := HZWd.out.cell 10 rfl
    have xf_Wd : ∀ j, Wd.frozen? ⟨B8, j, none⟩ = false := HXWd.out.fz
    have rf_Wd : ∀ j, Wd.frozen? ⟨w.heap.size, j, none⟩ = false := HZWd.out.fz
    have xl_Wd : B8 < Wd.heap.size := HXWd.out.lt
    have rl_Wd : w.heap.size < Wd.heap.size := HZWd.out.lt
    go_wp2_with fail
    obtain ⟨hO1, hO2⟩ := name_no (nm_no HOK.out HA2.out HNM.out) HPO.out
    subst hO1 hO2
    have hq : Rq Wd R g cap ts (a + 1) true (a + 1) := by rw [← hWd]; exact (Rz_no HZ4.out).sets hBR hBg 1 [.string v]
    refine reds_end (⟨2, v, ⟨#[]⟩, 0, 0, 0, ⟨#[]⟩, none, 0, 0, none, 0, 0, none, 0, 0, X, Y⟩ : Sv) rfl HZWd.out HBWd.out hRw HGW.out ?hsome (fun _ => ⟨a + 1, HA2.out, ?_⟩)
    case hsome => exact fun x hx => by cases hx
    rw [left_len, show ts.length - (ts.length - (a + 1)) = a + 1 by have := HA2.out; omega]
    exact hq
set_option maxRecDepth 100000 in
set_option maxHeartbeats 8000000 in
theorem rstmt_unlock (deep : Int) (blk : Pp.Pl → Pp.R (List St)) {R g cap : Nat} {s : ByteArray} {ts : List Lx.Tk} {a bad : Nat} {w : World} (h : Rq w R g cap ts a false bad) (hal : Pp.Alive (left ts a)) (hok : TkOk s ts) (o : Option St) (m : List Lx.Core) (htx : (Px.hd (left ts a)).2.1 = [117, 110, 108, 111, 99, 107]) (hp : Pp.stmt (plOf s ts) (blk (plOf s ts)) (left ts a) = (o, m)) :
    Calls Try.prog 62 #[.pointer (some ⟨R, 0, none⟩), .string s, .int .i64 deep] w fun e w' => RedS R g cap ts bad w o m e w' := by
  have ha := alive_lt hal
  have HR : Hid (Rq w R g cap ts a false bad) := h
  have hRw := h.rlt
  have hgw := h.lt
  have c0 := h.c0
  have c1 := h.c1
  have z1 := h.z 1
  have hf := h.few
  have hwr : IntKind.i64.wrap ((a : Int) + 1) = (a : Int) + 1 := by rw [IntKind.wrap_i64]; omega
  have hhd := hd_in ts a ha
  rw [hhd] at htx
  replace htx : Hid (ts[a].text = [117, 110, 108, 111, 99, 107]) := htx
  have hmem := List.getElem_mem ha
  have hw1 : ts[a].kind = 1 → Lx.isWord ts[a].text = true := hok.fit _ hmem
  have hkd : Hid (ts[a].kind = kindOf ts[a].text) := hok.kd _ hmem
  have HPL : Hid (∀ W, Calls Try.prog 50 #[.string s, .int .i64 (ts[a].at' : Int)] W fun e w' => e = .returned (.complex .f64 (lineW s ts[a].at') (colW s ts[a].at')) ∧ w' = W) := fun W => place_in s _ hok.sz (hok.at' _ hmem) W
  have hpl : plOf s ts (left ts a).length = (lineW s ts[a].at', colW s ts[a].at') := plOf_at s ts a ha
  obtain ⟨t0, t1, t2, t3⟩ := h.tok a ha
  have hai : (a : Int) < (ts.length : Int) := by omega
  have HA : Hid (a < ts.length) := ha
  have HAL : Hid (Pp.Alive (left ts a)) := hal
  have HOK : Hid (TkOk s ts) := hok
  have HHD : Hid _ := hhd
  have HPP : Hid _ := hpl
  unfold Pp.stmt at hp
  rw [hpl, hhd] at hp
  generalize lineW s ts[a].at' = X at *
  generalize colW s ts[a].at' = Y at *
  generalize ts[a].kind = kd at *
  generalize ts[a].text = tx at *
  generalize ts[a].n = nn at *
  generalize ts[a].at' = aa at *
  obtain ⟨N, hN⟩ : ∃ N, ts.length = N := ⟨_, rfl⟩
  have HN : Hid (ts.length = N) := hN
  rw [hN] at c0 hf hai
  clear h hal hok ha hN hmem hpl
  go_enter Try.func62, Try.ntmps62
  go_wp2_with fail
  go_region
  obtain ⟨W1, hW1⟩ : ∃ W1, ((sz w).alloc (.cells #[.int .i64 (kd : Int), .string (Px.ba tx), .int .i64 (nn : Int), .int .i64 (aa : Int)] 99)).drew = W1 := ⟨_, rfl⟩
  have hkw : Kept w (sz w) := (Kept.refl _).al _
  have hk1 : Kept (sz w) W1 := by rw [← hW1]; exact ((Kept.refl _).al _).dr
  have KW1 : Hid (Kept w W1) := hkw.then hk1
  have hbz : BoxS W1 w.heap.size (sv0 0 0).cells := (box_of (heap_alloc_new w _)).kept hk1
  have hbt : BoxS W1 (w.heap.size + 1) [.int .i64 (kd : Int), .string (Px.ba tx), .int .i64 (nn : Int), .int .i64 (aa : Int)] := by
    have h1 : BoxS ((sz w).alloc (.cells #[.int .i64 (kd : Int), .string (Px.ba tx), .int .i64 (nn : Int), .int .i64 (aa : Int)] 99)) (sz w).heap.size [.int .i64 (kd : Int), .string (Px.ba tx), .int .i64 (nn : Int), .int .i64 (aa : Int)] := box_of (heap_alloc_new (sz w) _)
    rw [show (sz w).heap.size = w.heap.size + 1 by simp] at h1
    rw [← hW1]
    exact h1.kept (Kept.refl _).dr
  have u3 : W1.cell? ⟨w.heap.size + 1, 3, none⟩ = some (.int .i64 (aa : Int)) := hbt.cell 3 rfl
  have hlt1 : w.heap.size + 1 < W1.heap.size := hbt.lt
  rw [hW1]
  clear hW1 hk1 hkw c0 t0 t1 t2 t3
  go_wp2_with fail
  refine (HPL.out _).mono ?_
  rintro e W1 ⟨rfl, rfl⟩
  obtain ⟨B8, hB8⟩ : ∃ B, W1.heap.size = B := ⟨_, rfl⟩
  obtain ⟨W2, hW2⟩ : ∃ W, W1.alloc (.cells #[.int .i64 0, .string ⟨#[]⟩, .string ⟨#[]⟩, .int .i64 0, .int .i64 0, .int .i64 0, .string ⟨#[]⟩, .slice none 0 0, .slice none 0 0, .slice none 0 0, .complex .f64 X Y] 46) = W := ⟨_, rfl⟩
  have hk2 : Kept W1 W2 := by rw [← hW2]; exact (Kept.refl _).al _
  have KW2 : Hid (Kept w W2) := KW1.out.then hk2
  have HQ2 : Hid (Rq W2 R g cap ts a false bad) := HR.out.kept KW2.out
  have hx : BoxS W2 B8 (⟨0, ⟨#[]⟩, ⟨#[]⟩, 0, 0, 0, ⟨#[]⟩, none, 0, 0, none, 0, 0, none, 0, 0, X, Y⟩ : Sv).cells := by rw [← hW2, ← hB8]; exact box_of (heap_alloc_new W1 _)
  have HXW2 : Hid (BoxS W2 B8 (⟨0, ⟨#[]⟩, ⟨#[]⟩, 0, 0, 0, ⟨#[]⟩, none, 0, 0, none, 0, 0, none, 0, 0, X, Y⟩ : Sv).cells) := hx
  have hzz : BoxS W2 w.heap.size (sv0 0 0).cells := hbz.kept hk2
  have HZW2 : Hid (BoxS W2 w.heap.size (sv0 0 0).cells) := hzz
  have x0 : W2.cell? ⟨B8, 0, none⟩ = some (.int .i64 (0)) := hx.cell 0 rfl
  have x1 : W2.cell? ⟨B8, 1, none⟩ = some (.string (⟨#[]⟩)) := hx.cell 1 rfl
  have x2 : W2.cell? ⟨B8, 2, none⟩ = some (.string (⟨#[]⟩)) := hx.cell 2 rfl
  have x3 : W2.cell? ⟨B8, 3, none⟩ = some (.int .i64 (0)) := hx.cell 3 rfl
  have x4 : W2.cell? ⟨B8, 4, none⟩ = some (.int .i64 (0)) := hx.cell 4 rfl
  have x5 : W2.cell? ⟨B8, 5, none⟩ = some (.int .i64 (0)) := hx.cell 5 rfl
  have x6 : W2.cell? ⟨B8, 6, none⟩ = some (.string (⟨#[]⟩)) := hx.cell 6 rfl
  have x7 : W2.cell? ⟨B8, 7, none⟩ = some (.slice none 0 0) := hx.cell 7 rfl
  have x8 : W2.cell? ⟨B8, 8, none⟩ = some (.slice none 0 0) := hx.cell 8 rfl
  have x9 : W2.cell? ⟨B8, 9, none⟩ = some (.slice none 0 0) := hx.cell 9 rfl
  have x10 : W2.cell? ⟨B8, 10, none⟩ = some (.complex .f64 X Y) := hx.cell 10 rfl
  have r0 : W2.cell? ⟨w.heap.size, 0, none⟩ = some (.int .i64 (0)) := hzz.cell 0 rfl
  have r1 : W2.cell? ⟨w.heap.size, 1, none⟩ = some (.string (⟨#[]⟩)) := hzz.cell 1 rfl
  have r2 : W2.cell? ⟨w.heap.size, 2, none⟩ = some (.string (⟨#[]⟩)) := hzz.cell 2 rfl
  have r3 : W2.cell? ⟨w.heap.size, 3, none⟩ = some (.int .i64 (0)) := hzz.cell 3 rfl
  have r4 : W2.cell? ⟨w.heap.size, 4, none⟩ = some (.int .i64 (0)) := hzz.cell 4 rfl
  have r5 : W2.cell? ⟨w.heap.size, 5, none⟩ = some (.int .i64 (0)) := hzz.cell 5 rfl
  have r6 : W2.cell? ⟨w.heap.size, 6, none⟩ = some (.string (⟨#[]⟩)) := hzz.cell 6 rfl
  have r7 : W2.cell? ⟨w.heap.size, 7, none⟩ = some (.slice none 0 0) := hzz.cell 7 rfl
  have r8 : W2.cell? ⟨w.heap.size, 8, none⟩ = some (.slice none 0 0) := hzz.cell 8 rfl
  have r9 : W2.cell? ⟨w.heap.size, 9, none⟩ = some (.slice none 0 0) := hzz.cell 9 rfl
  have r10 : W2.cell? ⟨w.heap.size, 10, none⟩ = some (.complex .f64 0 0) := hzz.cell 10 rfl
  have xf : ∀ j, W2.frozen? ⟨B8, j, none⟩ = false := hx.fz
  have rf : ∀ j, W2.frozen? ⟨w.heap.size, j, none⟩ = false := hzz.fz
  have xl : B8 < W2.heap.size := hx.lt
  have rl : w.heap.size < W2.heap.size := hzz.lt
  clear hx hzz
  have htk : BoxS W2 (w.heap.size + 1) [.int .i64 (kd : Int), .string (Px.ba tx), .int .i64 (nn : Int), .int .i64 (aa : Int)] := hbt.kept hk2
  have HTW2 : Hid (BoxS W2 (w.heap.size + 1) [.int .i64 (kd : Int), .string (Px.ba tx), .int .i64 (nn : Int), .int .i64 (aa : Int)]) := htk
  have u0 : W2.cell? ⟨w.heap.size + 1, 0, none⟩ = some (.int .i64 (kd : Int)) := htk.cell 0 rfl
  have u1 : W2.cell? ⟨w.heap.size + 1, 1, none⟩ = some (.string (Px.ba tx)) := htk.cell 1 rfl
  clear htk
  have hR2 := HQ2.out.rlt
  replace c1 := HQ2.out.c1
  replace z1 := HQ2.out.z 1
  have hBR : B8 ≠ R := by omega
  have hBg : B8 ≠ g := by omega
  have hBw : w.heap.size + 1 < B8 := by omega
  have hrR : w.heap.size ≠ R := by omega
  have htR : w.heap.size + 1 ≠ R := by omega
  have hrB : w.heap.size ≠ B8 := by omega
  have htB : w.heap.size + 1 ≠ B8 := by omega
  have HGW : Hid (g < w.heap.size) := hgw
  have LF : Hid (ts.length - (left ts a).length = a) := by show _ = _; rw [left_len]; have := HA.out; omega
  clear hbz hbt u3 hk2 hgw hlt1
  have h1 : kd = 1 := by rw [hkd.out, htx.out]; decide
  have hal2 : Pp.Alive (left ts (a + 1)) := by
    have := HAL.out.tail (.inl (by rw [hhd, h1]; show (1 : Nat) ≠ 4; decide))
    rwa [left_tail] at this
  have HAL2 : Hid (Pp.Alive (left ts (a + 1))) := hal2
  have HA2 : Hid (a + 1 < ts.length) := alive_lt hal2
  obtain ⟨W3, hW3⟩ : ∃ W, W2.setCell ⟨R, 1, none⟩ (.int .i64 ((a : Int) + 1)) = W := ⟨_, rfl⟩
  have hq3 := HQ2.out.at' (a + 1) (Nat.le_of_lt HA2.out)
  rw [show ((a + 1 : Nat) : Int) = (a : Int) + 1 by omega, hW3] at hq3
  have HQW3 : Hid (Rq W3 R g cap ts (a + 1) false bad) := hq3
  have hb23 : But R W2 W3 := by rw [← hW3]; exact (But.refl _ _).set _ _
  have HBW3 : Hid (But R w W3) := (But.of KW2.out).then hb23
  have HXW3 : Hid (BoxS W3 B8 (⟨0, ⟨#[]⟩, ⟨#[]⟩, 0, 0, 0, ⟨#[]⟩, none, 0, 0, none, 0, 0, none, 0, 0, X, Y⟩ : Sv).cells) := HXW2.out.but hb23 hBR
  have HZW3 : Hid (BoxS W3 w.heap.size (sv0 0 0).cells) := HZW2.out.but hb23 hrR
  have HTW3 : Hid (BoxS W3 (w.heap.size + 1) [.int .i64 (kd : Int), .string (Px.ba tx), .int .i64 (nn : Int), .int .i64 (aa : Int)]) := HTW2.out.but hb23 htR
  subst h1
  clear hq3 hb23 hal2 hw1 x0 x1 x2 x3 x4 x5 x6 x7 x8 x9 x10 r0 r1 r2 r3 r4 r5 r6 r7 r8 r9 r10 xf rf xl rl
  have htx1 := htx.out
  subst htx1
  clear htx
  have hP : Pp.bind Pp.name (fun a => Pp.ret (St.mk 3 (Px.ba a) Px.e0 0 ex0 [] [] X Y)) (left ts (a + 1)) = (o, m) := by
    have : Pp.behind (blk (plOf s ts)) 3 (X, Y) (left ts a).tail = (o, m) := hp
    rw [left_tail] at this
    exact this
  clear hp hhd hkd
  have e0 : ((Px.ba [117, 110, 108, 111, 99, 107]).toList == [108, 111, 99, 107]) = false := by rw [show (Px.ba [117, 110, 108, 111, 99, 107]).toList = [117, 110, 108, 111, 99, 107] by rw [toList_data]; rfl]; decide
  have e1 : ((Px.ba [117, 110, 108, 111, 99, 107]).toList == [117, 110, 108, 111, 99, 107]) = true := by rw [show (Px.ba [117, 110, 108, 111, 99, 107]).toList = [117, 110, 108, 111, 99, 107] by rw [toList_data]; rfl]; decide
  have e2 : ((Px.ba [117, 110, 108, 111, 99, 107]).toList == [103, 111, 116, 111]) = false := by rw [show (Px.ba [117, 110, 108, 111, 99, 107]).toList = [117, 110, 108, 111, 99, 107] by rw [toList_data]; rfl]; decide
  have e3 : ((Px.ba [117, 110, 108, 111, 99, 107]).toList == [108, 97, 98, 101, 108]) = false := by rw [show (Px.ba [117, 110, 108, 111, 99, 107]).toList = [117, 110, 108, 111, 99, 107] by rw [toList_data]; rfl]; decide
  have e4 : ((Px.ba [117, 110, 108, 111, 99, 107]).toList == [115, 101, 110, 100]) = false := by rw [show (Px.ba [117, 110, 108, 111, 99, 107]).toList = [117, 110, 108, 111, 99, 107] by rw [toList_data]; rfl]; decide
  have e5 : ((Px.ba [117, 110, 108, 111, 99, 107]).toList == [114, 101, 99, 118]) = false := by rw [show (Px.ba [117, 110, 108, 111, 99, 107]).toList = [117, 110, 108, 111, 99, 107] by rw [toList_data]; rfl]; decide
  have e6 : ((Px.ba [117, 110, 108, 111, 99, 107]).toList == [112, 114, 105, 110, 116]) = false := by rw [show (Px.ba [117, 110, 108, 111, 99, 107]).toList = [117, 110, 108, 111, 99, 107] by rw [toList_data]; rfl]; decide
  have e7 : ((Px.ba [117, 110, 108, 111, 99, 107]).toList == [105, 102]) = false := by rw [show (Px.ba [117, 110, 108, 111, 99, 107]).toList = [117, 110, 108, 111, 99, 107] by rw [toList_data]; rfl]; decide
  have e8 : ((Px.ba [117, 110, 108, 111, 99, 107]).toList == [114, 101, 112, 101, 97, 116]) = false := by rw [show (Px.ba [117, 110, 108, 111, 99, 107]).toList = [117, 110, 108, 111, 99, 107] by rw [toList_data]; rfl]; decide
  generalize Px.ba [117, 110, 108, 111, 99, 107] = TX at *
  have x0_W3 : W3.cell? ⟨B8, 0, none⟩ = some (.int .i64 (0)) := HXW3.out.cell 0 rfl
  have x1_W3 : W3.cell? ⟨B8, 1, none⟩ = some (.string (⟨#[]⟩)) := HXW3.out.cell 1 rfl
  have x2_W3 : W3.cell? ⟨B8, 2, none⟩ = some (.string (⟨#[]⟩)) := HXW3.out.cell 2 rfl
  have x3_W3 : W3.cell? ⟨B8, 3, none⟩ = some (.int .i64 (0)) := HXW3.out.cell 3 rfl
  have x4_W3 : W3.cell? ⟨B8, 4, none⟩ = some (.int .i64 (0)) := HXW3.out.cell 4 rfl
  have x5_W3 : W3.cell? ⟨B8, 5, none⟩ = some (.int .i64 (0)) := HXW3.out.cell 5 rfl
  have x6_W3 : W3.cell? ⟨B8, 6, none⟩ = some (.string (⟨#[]⟩)) := HXW3.out.cell 6 rfl
  have x7_W3 : W3.cell? ⟨B8, 7, none⟩ = some (.slice none 0 0) := HXW3.out.cell 7 rfl
  have x8_W3 : W3.cell? ⟨B8, 8, none⟩ = some (.slice none 0 0) := HXW3.out.cell 8 rfl
  have x9_W3 : W3.cell? ⟨B8, 9, none⟩ = some (.slice none 0 0) := HXW3.out.cell 9 rfl
  have x10_W3 : W3.cell? ⟨B8, 10, none⟩ = some (.complex .f64 X Y) := HXW3.out.cell 10 rfl
  have r0_W3 : W3.cell? ⟨w.heap.size, 0, none⟩ = some (.int .i64 (0)) := HZW3.out.cell 0 rfl
  have r1_W3 : W3.cell? ⟨w.heap.size, 1, none⟩ = some (.string (⟨#[]⟩)) := HZW3.out.cell 1 rfl
  have r2_W3 : W3.cell? ⟨w.heap.size, 2, none⟩ = some (.string (⟨#[]⟩)) := HZW3.out.cell 2 rfl
  have r3_W3 : W3.cell? ⟨w.heap.size, 3, none⟩ = some (.int .i64 (0)) := HZW3.out.cell 3 rfl
  have r4_W3 : W3.cell? ⟨w.heap.size, 4, none⟩ = some (.int .i64 (0)) := HZW3.out.cell 4 rfl
  have r5_W3 : W3.cell? ⟨w.heap.size, 5, none⟩ = some (.int .i64 (0)) := HZW3.out.cell 5 rfl
  have r6_W3 : W3.cell? ⟨w.heap.size, 6, none⟩ = some (.string (⟨#[]⟩)) := HZW3.out.cell 6 rfl
  have r7_W3 : W3.cell? ⟨w.heap.size, 7, none⟩ = some (.slice none 0 0) := HZW3.out.cell 7 rfl
  have r8_W3 : W3.cell? ⟨w.heap.size, 8, none⟩ = some (.slice none 0 0) := HZW3.out.cell 8 rfl
  have r9_W3 : W3.cell? ⟨w.heap.size, 9, none⟩ = some (.slice none 0 0) := HZW3.out.cell 9 rfl
  have r10_W3 : W3.cell? ⟨w.heap.size, 10, none⟩ = some (.complex .f64 0 0) := HZW3.out.cell 10 rfl
  have xf_W3 : ∀ j, W3.frozen? ⟨B8, j, none⟩ = false := HXW3.out.fz
  have rf_W3 : ∀ j, W3.frozen? ⟨w.heap.size, j, none⟩ = false := HZW3.out.fz
  have xl_W3 : B8 < W3.heap.size := HXW3.out.lt
  have rl_W3 : w.heap.size < W3.heap.size := HZW3.out.lt
  replace u1 : W3.cell? ⟨w.heap.size + 1, 1, none⟩ = some (.string TX) := HTW3.out.cell 1 rfl
  obtain ⟨Wc, hWc⟩ : ∃ W, ((W3).setCell ⟨B8, 0, none⟩ (.int .i64 2)).setCell ⟨B8, 0, none⟩ (.int .i64 3) = W := ⟨_, rfl⟩
  have HXWc : Hid (BoxS Wc B8 (⟨3, ⟨#[]⟩, ⟨#[]⟩, 0, 0, 0, ⟨#[]⟩, none, 0, 0, none, 0, 0, none, 0, 0, X, Y⟩ : Sv).cells) := by rw [← hWc]; exact ((((HXW3.out).setv 0 [.int .i64 2] (⟨2, ⟨#[]⟩, ⟨#[]⟩, 0, 0, 0, ⟨#[]⟩, none, 0, 0, none, 0, 0, none, 0, 0, X, Y⟩ : Sv).cells (by show 0 + 1 ≤ 11; decide) rfl)).setv 0 [.int .i64 3] (⟨3, ⟨#[]⟩, ⟨#[]⟩, 0, 0, 0, ⟨#[]⟩, none, 0, 0, none, 0, 0, none, 0, 0, X, Y⟩ : Sv).cells (by show 0 + 1 ≤ 11; decide) rfl)
  have HZWc : Hid (BoxS Wc w.heap.size (sv0 0 0).cells) := by rw [← hWc]; exact ((((HZW3.out).apart hrB 0 [.int .i64 2])).apart hrB 0 [.int .i64 3])
  have HBWc : Hid (But R w Wc) := by rw [← hWc]; exact ((((HBW3.out).sets (B := B8) (by omega) 0 [.int .i64 2])).sets (B := B8) (by omega) 0 [.int .i64 3])
  have HTWc : Hid (BoxS Wc (w.heap.size + 1) [.int .i64 ((1 : Nat) : Int), .string TX, .int .i64 (nn : Int), .int .i64 (aa : Int)]) := by rw [← hWc]; exact ((((HTW3.out).apart htB 0 [.int .i64 2])).apart htB 0 [.int .i64 3])
  have uWc : Wc.cell? ⟨w.heap.size + 1, 1, none⟩ = some (.string TX) := HTWc.out.cell 1 rfl
  have hqc : Rq Wc R g cap ts (a + 1) false bad := by rw [← hWc]; exact ((((HQW3.out).sets hBR hBg 0 [.int .i64 2])).sets hBR hBg 0 [.int .i64 3])
  cases hnm : isNmT (Px.hd (left ts (a + 1))) with
  | true =>
    have NM : Hid _ := rname_any hqc HA2.out (HOK.out.fit _ (List.getElem_mem HA2.out)) true (by rw [hnm]; rfl)
    have HNM : Hid (isNmT (Px.hd (left ts (a + 1))) = true) := hnm
    have HPO : Hid _ := hP
    clear hqc hnm hP
    go_wp2_with fail
    refine Calls.mono NM.out ?_
    rintro e w4 ⟨⟨v, rfl, hv⟩, hbn, hz⟩
    have HV : Hid _ := hv
    have HZ4 : Hid _ := hz
    clear x0_W3 x1_W3 x2_W3 x3_W3 x4_W3 x5_W3 x6_W3 x7_W3 x8_W3 x9_W3 x10_W3 r0_W3 r1_W3 r2_W3 r3_W3 r4_W3 r5_W3 r6_W3 r7_W3 r8_W3 r9_W3 r10_W3 xf_W3 rf_W3 xl_W3 rl_W3
    have HXw4 : Hid (BoxS w4 B8 (⟨3, ⟨#[]⟩, ⟨#[]⟩, 0, 0, 0, ⟨#[]⟩, none, 0, 0, none, 0, 0, none, 0, 0, X, Y⟩ : Sv).cells) := HXWc.out.but hbn hBR
    have HZw4 : Hid (BoxS w4 w.heap.size (sv0 0 0).cells) := HZWc.out.but hbn hrR
    have HBw4 : Hid (But R w w4) := HBWc.out.then hbn
    have HTw4 : Hid (BoxS w4 (w.heap.size + 1) [.int .i64 ((1 : Nat) : Int), .string TX, .int .i64 (nn : Int), .int .i64 (aa : Int)]) := HTWc.out.but hbn htR
    clear hbn
    clear hv hz
    have x0_w4 : w4.cell? ⟨B8, 0, none⟩ = some (.int .i64 (3)) := HXw4.out.cell 0 rfl
    have x1_w4 : w4.cell? ⟨B8, 1, none⟩ = some (.string (⟨#[]⟩)) := HXw4.out.cell 1 rfl
    have x2_w4 : w4.cell? ⟨B8, 2, none⟩ = some (.string (⟨#[]⟩)) := HXw4.out.cell 2 rfl
    have x3_w4 : w4.cell? ⟨B8, 3, none⟩ = some (.int .i64 (0)) := HXw4.out.cell 3 rfl
    have x4_w4 : w4.cell? ⟨B8, 4, none⟩ = some (.int .i64 (0)) := HXw4.out.cell 4 rfl
    have x5_w4 : w4.cell? ⟨B8, 5, none⟩ = some (.int .i64 (0)) := HXw4.out.cell 5 rfl
    have x6_w4 : w4.cell? ⟨B8, 6, none⟩ = some (.string (⟨#[]⟩)) := HXw4.out.cell 6 rfl
    have x7_w4 : w4.cell? ⟨B8, 7, none⟩ = some (.slice none 0 0) := HXw4.out.cell 7 rfl
    have x8_w4 : w4.cell? ⟨B8, 8, none⟩ = some (.slice none 0 0) := HXw4.out.cell 8 rfl
    have x9_w4 : w4.cell? ⟨B8, 9, none⟩ = some (.slice none 0 0) := HXw4.out.cell 9 rfl
    have x10_w4 : w4.cell? ⟨B8, 10, none⟩ = some (.complex .f64 X Y) := HXw4.out.cell 10 rfl
    have r0_w4 : w4.cell? ⟨w.heap.size, 0, none⟩ = some (.int .i64 (0)) := HZw4.out.cell 0 rfl
    have r1_w4 : w4.cell? ⟨w.heap.size, 1, none⟩ = some (.string (⟨#[]⟩)) := HZw4.out.cell 1 rfl
    have r2_w4 : w4.cell? ⟨w.heap.size, 2, none⟩ = some (.string (⟨#[]⟩)) := HZw4.out.cell 2 rfl
    have r3_w4 : w4.cell? ⟨w.heap.size, 3, none⟩ = some (.int .i64 (0)) := HZw4.out.cell 3 rfl
    have r4_w4 : w4.cell? ⟨w.heap.size, 4, none⟩ = some (.int .i64 (0)) := HZw4.out.cell 4 rfl
    have r5_w4 : w4.cell? ⟨w.heap.size, 5, none⟩ = some (.int .i64 (0)) := HZw4.out.cell 5 rfl
    have r6_w4 : w4.cell? ⟨w.heap.size, 6, none⟩ = some (.string (⟨#[]⟩)) := HZw4.out.cell 6 rfl
    have r7_w4 : w4.cell? ⟨w.heap.size, 7, none⟩ = some (.slice none 0 0) := HZw4.out.cell 7 rfl
    have r8_w4 : w4.cell? ⟨w.heap.size, 8, none⟩ = some (.slice none 0 0) := HZw4.out.cell 8 rfl
    have r9_w4 : w4.cell? ⟨w.heap.size, 9, none⟩ = some (.slice none 0 0) := HZw4.out.cell 9 rfl
    have r10_w4 : w4.cell? ⟨w.heap.size, 10, none⟩ = some (.complex .f64 0 0) := HZw4.out.cell 10 rfl
    have xf_w4 : ∀ j, w4.frozen? ⟨B8, j, none⟩ = false := HXw4.out.fz
    have rf_w4 : ∀ j, w4.frozen? ⟨w.heap.size, j, none⟩ = false := HZw4.out.fz
    have xl_w4 : B8 < w4.heap.size := HXw4.out.lt
    have rl_w4 : w.heap.size < w4.heap.size := HZw4.out.lt
    obtain ⟨Wd, hWd⟩ : ∃ W, (w4).setCell ⟨B8, 1, none⟩ (.string v) = W := ⟨_, rfl⟩
    have HXWd : Hid (BoxS Wd B8 (⟨3, v, ⟨#[]⟩, 0, 0, 0, ⟨#[]⟩, none, 0, 0, none, 0, 0, none, 0, 0, X, Y⟩ : Sv).cells) := by rw [← hWd]; exact ((HXw4.out).setv 1 [.string v] (⟨3, v, ⟨#[]⟩, 0, 0, 0, ⟨#[]⟩, none, 0, 0, none, 0, 0, none, 0, 0, X, Y⟩ : Sv).cells (by show 1 + 1 ≤ 11; decide) rfl)
    have HZWd : Hid (BoxS Wd w.heap.size (sv0 0 0).cells) := by rw [← hWd]; exact ((HZw4.out).apart hrB 1 [.string v])
    have HBWd : Hid (But R w Wd) := by rw [← hWd]; exact ((HBw4.out).sets (B := B8) (by omega) 1 [.string v])
    have HTWd : Hid (BoxS Wd (w.heap.size + 1) [.int .i64 ((1 : Nat) : Int), .string TX, .int .i64 (nn : Int), .int .i64 (aa : Int)]) := by rw [← hWd]; exact ((HTw4.out).apart htB 1 [.string v])
    have uWd : Wd.cell? ⟨w.heap.size + 1, 1, none⟩ = some (.string TX) := HTWd.out.cell 1 rfl
    have x0_Wd : Wd.cell? ⟨B8, 0, none⟩ = some (.int .i64 (3)) := HXWd.out.cell 0 rfl
    have x1_Wd : Wd.cell? ⟨B8, 1, none⟩ = some (.string (v)) := HXWd.out.cell 1 rfl
    have x2_Wd : Wd.cell? ⟨B8, 2, none⟩ = some (.string (⟨#[]⟩)) := HXWd.out.cell 2 rfl
    have x3_Wd : Wd.cell? ⟨B8, 3, none⟩ = some (.int .i64 (0)) := HXWd.out.cell 3 rfl
    have x4_Wd : Wd.cell? ⟨B8, 4, none⟩ = some (.int .i64 (0)) := HXWd.out.cell 4 rfl
    have x5_Wd : Wd.cell? ⟨B8, 5, none⟩ = some (.int .i64 (0)) := HXWd.out.cell 5 rfl
    have x6_Wd : Wd.cell? ⟨B8, 6, none⟩ = some (.string (⟨#[]⟩)) := HXWd.out.cell 6 rfl
    have x7_Wd : Wd.cell? ⟨B8, 7, none⟩ = some (.slice none 0 0) := HXWd.out.cell 7 rfl
    have x8_Wd : Wd.cell? ⟨B8, 8, none⟩ = some (.slice none 0 0) := HXWd.out.cell 8 rfl
    have x9_Wd : Wd.cell? ⟨B8, 9, none⟩ = some (.slice none 0 0) := HXWd.out.cell 9 rfl
    have x10_Wd : Wd.cell? ⟨B8, 10, none⟩ = some (.complex .f64 X Y) := HXWd.out.cell 10 rfl
    have r0_Wd : Wd.cell? ⟨w.heap.size, 0, none⟩ = some (.int .i64 (0)) := HZWd.out.cell 0 rfl
    have r1_Wd : Wd.cell? ⟨w.heap.size, 1, none⟩ = some (.string (⟨#[]⟩)) := HZWd.out.cell 1 rfl
    have r2_Wd : Wd.cell? ⟨w.heap.size, 2, none⟩ = some (.string (⟨#[]⟩)) := HZWd.out.cell 2 rfl
    have r3_Wd : Wd.cell? ⟨w.heap.size, 3, none⟩ = some (.int .i64 (0)) := HZWd.out.cell 3 rfl
    have r4_Wd : Wd.cell? ⟨w.heap.size, 4, none⟩ = some (.int .i64 (0)) := HZWd.out.cell 4 rfl
    have r5_Wd : Wd.cell? ⟨w.heap.size, 5, none⟩ = some (.int .i64 (0)) := HZWd.out.cell 5 rfl
    have r6_Wd : Wd.cell? ⟨w.heap.size, 6, none⟩ = some (.string (⟨#[]⟩)) := HZWd.out.cell 6 rfl
    have r7_Wd : Wd.cell? ⟨w.heap.size, 7, none⟩ = some (.slice none 0 0) := HZWd.out.cell 7 rfl
    have r8_Wd : Wd.cell? ⟨w.heap.size, 8, none⟩ = some (.slice none 0 0) := HZWd.out.cell 8 rfl
    have r9_Wd : Wd.cell? ⟨w.heap.size, 9, none⟩ = some (.slice none 0 0) := HZWd.out.cell 9 rfl
    have r10_Wd : Wd.cell? ⟨w.heap.size, 10, none⟩ = some (.complex .f64 0 0) := HZWd.out.cell 10 rfl
    have xf_Wd : ∀ j, Wd.frozen? ⟨B8, j, none⟩ = false := HXWd.out.fz
    have rf_Wd : ∀ j, Wd.frozen? ⟨w.heap.size, j, none⟩ = false := HZWd.out.fz
    have xl_Wd : B8 < Wd.heap.size := HXWd.out.lt
    have rl_Wd : w.heap.size < Wd.heap.size := HZWd.out.lt
    go_wp2_with fail
    obtain ⟨hO1, hO2⟩ := name_yes HNM.out HPO.out
    subst hO1 hO2
    have hq : Rq Wd R g cap ts (a + 1 + 1) false bad := by rw [← hWd]; exact (Rz_yes HZ4.out).sets hBR hBg 1 [.string v]
    have hv := HV.out trivial
    refine reds_end (⟨3, v, ⟨#[]⟩, 0, 0, 0, ⟨#[]⟩, none, 0, 0, none, 0, 0, none, 0, 0, X, Y⟩ : Sv) rfl HZWd.out HBWd.out hRw HGW.out (fun x hx => ?_) (fun hx => by cases hx)
    cases hx
    refine ⟨⟨rfl, hv, rfl, rfl, rfl, rfl, rfl, rfl, rfl, ExsD.nil _ _, StsD.nil' _ _, StsD.nil' _ _⟩, ?_⟩
    rw [left_tail, left_len, show ts.length - (ts.length - (a + 1 + 1)) = a + 1 + 1 by have := HA2.out; omega]
    exact hq
  | false =>
    have NM : Hid _ := rname_any hqc HA2.out (HOK.out.fit _ (List.getElem_mem HA2.out)) false (by rw [hnm]; rfl)
    have HNM : Hid (isNmT (Px.hd (left ts (a + 1))) = false) := hnm
    have HPO : Hid _ := hP
    clear hqc hnm hP
    go_wp2_with fail
    refine Calls.mono NM.out ?_
    rintro e w4 ⟨⟨v, rfl, hv⟩, hbn, hz⟩
    have HV : Hid _ := hv
    have HZ4 : Hid _ := hz
    clear x0_W3 x1_W3 x2_W3 x3_W3 x4_W3 x5_W3 x6_W3 x7_W3 x8_W3 x9_W3 x10_W3 r0_W3 r1_W3 r2_W3 r3_W3 r4_W3 r5_W3 r6_W3 r7_W3 r8_W3 r9_W3 r10_W3 xf_W3 rf_W3 xl_W3 rl_W3
    have HXw4 : Hid (BoxS w4 B8 (⟨3, ⟨#[]⟩, ⟨#[]⟩, 0, 0, 0, ⟨#[]⟩, none, 0, 0, none, 0, 0, none, 0, 0, X, Y⟩ : Sv).cells) := HXWc.out.but hbn hBR
    have HZw4 : Hid (BoxS w4 w.heap.size (sv0 0 0).cells) := HZWc.out.but hbn hrR
    have HBw4 : Hid (But R w w4) := HBWc.out.then hbn
    have HTw4 : Hid (BoxS w4 (w.heap.size + 1) [.int .i64 ((1 : Nat) : Int), .string TX, .int .i64 (nn : Int), .int .i64 (aa : Int)]) := HTWc.out.but hbn htR
    clear hbn
    clear hv hz
    have x0_w4 : w4.cell? ⟨B8, 0, none⟩ = some (.int .i64 (3)) := HXw4.out.cell 0 rfl
    have x1_w4 : w4.cell? ⟨B8, 1, none⟩ = some (.string (⟨#[]⟩)) := HXw4.out.cell 1 rfl
    have x2_w4 : w4.cell? ⟨B8, 2, none⟩ = some (.string (⟨#[]⟩)) := HXw4.out.cell 2 rfl
    have x3_w4 : w4.cell? ⟨B8, 3, none⟩ = some (.int .i64 (0)) := HXw4.out.cell 3 rfl
    have x4_w4 : w4.cell? ⟨B8, 4, none⟩ = some (.int .i64 (0)) := HXw4.out.cell 4 rfl
    have x5_w4 : w4.cell? ⟨B8, 5, none⟩ = some (.int .i64 (0)) := HXw4.out.cell 5 rfl
    have x6_w4 : w4.cell? ⟨B8, 6, none⟩ = some (.string (⟨#[]⟩)) := HXw4.out.cell 6 rfl
    have x7_w4 : w4.cell? ⟨B8, 7, none⟩ = some (.slice none 0 0) := HXw4.out.cell 7 rfl
    have x8_w4 : w4.cell? ⟨B8, 8, none⟩ = some (.slice none 0 0) := HXw4.out.cell 8 rfl
    have x9_w4 : w4.cell? ⟨B8, 9, none⟩ = some (.slice none 0 0) := HXw4.out.cell 9 rfl
    have x10_w4 : w4.cell? ⟨B8, 10, none⟩ = some (.complex .f64 X Y) := HXw4.out.cell 10 rfl
    have r0_w4 : w4.cell? ⟨w.heap.size, 0, none⟩ = some (.int .i64 (0)) := HZw4.out.cell 0 rfl
    have r1_w4 : w4.cell? ⟨w.heap.size, 1, none⟩ = some (.string (⟨#[]⟩)) := HZw4.out.cell 1 rfl
    have r2_w4 : w4.cell? ⟨w.heap.size, 2, none⟩ = some (.string (⟨#[]⟩)) := HZw4.out.cell 2 rfl
    have r3_w4 : w4.cell? ⟨w.heap.size, 3, none⟩ = some (.int .i64 (0)) := HZw4.out.cell 3 rfl
    have r4_w4 : w4.cell? ⟨w.heap.size, 4, none⟩ = some (.int .i64 (0)) := HZw4.out.cell 4 rfl
    have r5_w4 : w4.cell? ⟨w.heap.size, 5, none⟩ = some (.int .i64 (0)) := HZw4.out.cell 5 rfl
    have r6_w4 : w4.cell? ⟨w.heap.size, 6, none⟩ = some (.string (⟨#[]⟩)) := HZw4.out.cell 6 rfl
    have r7_w4 : w4.cell? ⟨w.heap.size, 7, none⟩ = some (.slice none 0 0) := HZw4.out.cell 7 rfl
    have r8_w4 : w4.cell? ⟨w.heap.size, 8, none⟩ = some (.slice none 0 0) := HZw4.out.cell 8 rfl
    have r9_w4 : w4.cell? ⟨w.heap.size, 9, none⟩ = some (.slice none 0 0) := HZw4.out.cell 9 rfl
    have r10_w4 : w4.cell? ⟨w.heap.size, 10, none⟩ = some (.complex .f64 0 0) := HZw4.out.cell 10 rfl
    have xf_w4 : ∀ j, w4.frozen? ⟨B8, j, none⟩ = false := HXw4.out.fz
    have rf_w4 : ∀ j, w4.frozen? ⟨w.heap.size, j, none⟩ = false := HZw4.out.fz
    have xl_w4 : B8 < w4.heap.size := HXw4.out.lt
    have rl_w4 : w.heap.size < w4.heap.size := HZw4.out.lt
    obtain ⟨Wd, hWd⟩ : ∃ W, (w4).setCell ⟨B8, 1, none⟩ (.string v) = W := ⟨_, rfl⟩
    have HXWd : Hid (BoxS Wd B8 (⟨3, v, ⟨#[]⟩, 0, 0, 0, ⟨#[]⟩, none, 0, 0, none, 0, 0, none, 0, 0, X, Y⟩ : Sv).cells) := by rw [← hWd]; exact ((HXw4.out).setv 1 [.string v] (⟨3, v, ⟨#[]⟩, 0, 0, 0, ⟨#[]⟩, none, 0, 0, none, 0, 0, none, 0, 0, X, Y⟩ : Sv).cells (by show 1 + 1 ≤ 11; decide) rfl)
    have HZWd : Hid (BoxS Wd w.heap.size (sv0 0 0).cells) := by rw [← hWd]; exact ((HZw4.out).apart hrB 1 [.string v])
    have HBWd : Hid (But R w Wd) := by rw [← hWd]; exact ((HBw4.out).sets (B := B8) (by omega) 1 [.string v])
    have HTWd : Hid (BoxS Wd (w.heap.size + 1) [.int .i64 ((1 : Nat) : Int), .string TX, .int .i64 (nn : Int), .int .i64 (aa : Int)]) := by rw [← hWd]; exact ((HTw4.out).apart htB 1 [.string v])
    have uWd : Wd.cell? ⟨w.heap.size + 1, 1, none⟩ = some (.string TX) := HTWd.out.cell 1 rfl
    have x0_Wd : Wd.cell? ⟨B8, 0, none⟩ = some (.int .i64 (3)) := HXWd.out.cell 0 rfl
    have x1_Wd : Wd.cell? ⟨B8, 1, none⟩ = some (.string (v)) := HXWd.out.cell 1 rfl
    have x2_Wd : Wd.cell? ⟨B8, 2, none⟩ = some (.string (⟨#[]⟩)) := HXWd.out.cell 2 rfl
    have x3_Wd : Wd.cell? ⟨B8, 3, none⟩ = some (.int .i64 (0)) := HXWd.out.cell 3 rfl
    have x4_Wd : Wd.cell? ⟨B8, 4, none⟩ = some (.int .i64 (0)) := HXWd.out.cell 4 rfl
    have x5_Wd : Wd.cell? ⟨B8, 5, none⟩ = some (.int .i64 (0)) := HXWd.out.cell 5 rfl
    have x6_Wd : Wd.cell? ⟨B8, 6, none⟩ = some (.string (⟨#[]⟩)) := HXWd.out.cell 6 rfl
    have x7_Wd : Wd.cell? ⟨B8, 7, none⟩ = some (.slice none 0 0) := HXWd.out.cell 7 rfl
    have x8_Wd : Wd.cell? ⟨B8, 8, none⟩ = some (.slice none 0 0) := HXWd.out.cell 8 rfl
    have x9_Wd : Wd.cell? ⟨B8, 9, none⟩ = some (.slice none 0 0) := HXWd.out.cell 9 rfl
    have x10_Wd : Wd.cell? ⟨B8, 10, none⟩ = some (.complex .f64 X Y) := HXWd.out.cell 10 rfl
    have r0_Wd : Wd.cell? ⟨w.heap.size, 0, none⟩ = some (.int .i64 (0)) := HZWd.out.cell 0 rfl
    have r1_Wd : Wd.cell? ⟨w.heap.size, 1, none⟩ = some (.string (⟨#[]⟩)) := HZWd.out.cell 1 rfl
    have r2_Wd : Wd.cell? ⟨w.heap.size, 2, none⟩ = some (.string (⟨#[]⟩)) := HZWd.out.cell 2 rfl
    have r3_Wd : Wd.cell? ⟨w.heap.size, 3, none⟩ = some (.int .i64 (0)) := HZWd.out.cell 3 rfl
    have r4_Wd : Wd.cell? ⟨w.heap.size, 4, none⟩ = some (.int .i64 (0)) := HZWd.out.cell 4 rfl
    have r5_Wd : Wd.cell? ⟨w.heap.size, 5, none⟩ = some (.int .i64 (0)) := HZWd.out.cell 5 rfl
    have r6_Wd : Wd.cell? ⟨w.heap.size, 6, none⟩ = some (.string (⟨#[]⟩)) := HZWd.out.cell 6 rfl
    have r7_Wd : Wd.cell? ⟨w.heap.size, 7, none⟩ = some (.slice none 0 0) := HZWd.out.cell 7 rfl
    have r8_Wd : Wd.cell? ⟨w.heap.size, 8, none⟩ = some (.slice none 0 0) := HZWd.out.cell 8 rfl
    have r9_Wd : Wd.cell? ⟨w.heap.size, 9, none⟩ = some (.slice none 0 0) := HZWd.out.cell 9 rfl
    have r10_Wd : Wd.cell? ⟨w.heap.size, 10, none⟩ = some (.complex .f64 0 0) := HZWd.out.cell 10 rfl
    have xf_Wd : ∀ j, Wd.frozen? ⟨B8, j, none⟩ = false := HXWd.out.fz
    have rf_Wd : ∀ j, Wd.frozen? ⟨w.heap.size, j, none⟩ = false := HZWd.out.fz
    have xl_Wd : B8 < Wd.heap.size := HXWd.out.lt
    have rl_Wd : w.heap.size < Wd.heap.size := HZWd.out.lt
    go_wp2_with fail
    obtain ⟨hO1, hO2⟩ := name_no (nm_no HOK.out HA2.out HNM.out) HPO.out
    subst hO1 hO2
    have hq : Rq Wd R g cap ts (a + 1) true (a + 1) := by rw [← hWd]; exact (Rz_no HZ4.out).sets hBR hBg 1 [.string v]
    refine reds_end (⟨3, v, ⟨#[]⟩, 0, 0, 0, ⟨#[]⟩, none, 0, 0, none, 0, 0, none, 0, 0, X, Y⟩ : Sv) rfl HZWd.out HBWd.out hRw HGW.out ?hsome (fun _ => ⟨a + 1, HA2.out, ?_⟩)
    case hsome => exact fun x hx => by cases hx
    rw [left_len, show ts.length - (ts.length - (a + 1)) = a + 1 by have := HA2.out; omega]
    exact hq
set_option maxRecDepth 100000 in
set_option maxHeartbeats 8000000 in
theorem rstmt_goto (deep : Int) (blk : Pp.Pl → Pp.R (List St)) {R g cap : Nat} {s : ByteArray} {ts : List Lx.Tk} {a bad : Nat} {w : World} (h : Rq w R g cap ts a false bad) (hal : Pp.Alive (left ts a)) (hok : TkOk s ts) (o : Option St) (m : List Lx.Core) (htx : (Px.hd (left ts a)).2.1 = [103, 111, 116, 111]) (hp : Pp.stmt (plOf s ts) (blk (plOf s ts)) (left ts a) = (o, m)) :
    Calls Try.prog 62 #[.pointer (some ⟨R, 0, none⟩), .string s, .int .i64 deep] w fun e w' => RedS R g cap ts bad w o m e w' := by
  have ha := alive_lt hal
  have HR : Hid (Rq w R g cap ts a false bad) := h
  have hRw := h.rlt
  have hgw := h.lt
  have c0 := h.c0
  have c1 := h.c1
  have z1 := h.z 1
  have hf := h.few
  have hwr : IntKind.i64.wrap ((a : Int) + 1) = (a : Int) + 1 := by rw [IntKind.wrap_i64]; omega
  have hhd := hd_in ts a ha
  rw [hhd] at htx
  replace htx : Hid (ts[a].text = [103, 111, 116, 111]) := htx
  have hmem := List.getElem_mem ha
  have hw1 : ts[a].kind = 1 → Lx.isWord ts[a].text = true := hok.fit _ hmem
  have hkd : Hid (ts[a].kind = kindOf ts[a].text) := hok.kd _ hmem
  have HPL : Hid (∀ W, Calls Try.prog 50 #[.string s, .int .i64 (ts[a].at' : Int)] W fun e w' => e = .returned (.complex .f64 (lineW s ts[a].at') (colW s ts[a].at')) ∧ w' = W) := fun W => place_in s _ hok.sz (hok.at' _ hmem) W
  have hpl : plOf s ts (left ts a).length = (lineW s ts[a].at', colW s ts[a].at') := plOf_at s ts a ha
  obtain ⟨t0, t1, t2, t3⟩ := h.tok a ha
  have hai : (a : Int) < (ts.length : Int) := by omega
  have HA : Hid (a < ts.length) := ha
  have HAL : Hid (Pp.Alive (left ts a)) := hal
  have HOK : Hid (TkOk s ts) := hok
  have HHD : Hid _ := hhd
  have HPP : Hid _ := hpl
  unfold Pp.stmt at hp
  rw [hpl, hhd] at hp
  generalize lineW s ts[a].at' = X at *
  generalize colW s ts[a].at' = Y at *
  generalize ts[a].kind = kd at *
  generalize ts[a].text = tx at *
  generalize ts[a].n = nn at *
  generalize ts[a].at' = aa at *
  obtain ⟨N, hN⟩ : ∃ N, ts.length = N := ⟨_, rfl⟩
  have HN : Hid (ts.length = N) := hN
  rw [hN] at c0 hf hai
  clear h hal hok ha hN hmem hpl
  go_enter Try.func62, Try.ntmps62
  go_wp2_with fail
  go_region
  obtain ⟨W1, hW1⟩ : ∃ W1, ((sz w).alloc (.cells #[.int .i64 (kd : Int), .string (Px.ba tx), .int .i64 (nn : Int), .int .i64 (aa : Int)] 99)).drew = W1 := ⟨_, rfl⟩
  have hkw : Kept w (sz w) := (Kept.refl _).al _
  have hk1 : Kept (sz w) W1 := by rw [← hW1]; exact ((Kept.refl _).al _).dr
  have KW1 : Hid (Kept w W1) := hkw.then hk1
  have hbz : BoxS W1 w.heap.size (sv0 0 0).cells := (box_of (heap_alloc_new w _)).kept hk1
  have hbt : BoxS W1 (w.heap.size + 1) [.int .i64 (kd : Int), .string (Px.ba tx), .int .i64 (nn : Int), .int .i64 (aa : Int)] := by
    have h1 : BoxS ((sz w).alloc (.cells #[.int .i64 (kd : Int), .string (Px.ba tx), .int .i64 (nn : Int), .int .i64 (aa : Int)] 99)) (sz w).heap.size [.int .i64 (kd : Int), .string (Px.ba tx), .int .i64 (nn : Int), .int .i64 (aa : Int)] := box_of (heap_alloc_new (sz w) _)
    rw [show (sz w).heap.size = w.heap.size + 1 by simp] at h1
    rw [← hW1]
    exact h1.kept (Kept.refl _).dr
  have u3 : W1.cell? ⟨w.heap.size + 1, 3, none⟩ = some (.int .i64 (aa : Int)) := hbt.cell 3 rfl
  have hlt1 : w.heap.size + 1 < W1.heap.size := hbt.lt
  rw [hW1]
  clear hW1 hk1 hkw c0 t0 t1 t2 t3
  go_wp2_with fail
  refine (HPL.out _).mono ?_
  rintro e W1 ⟨rfl, rfl⟩
  obtain ⟨B8, hB8⟩ : ∃ B, W1.heap.size = B := ⟨_, rfl⟩
  obtain ⟨W2, hW2⟩ : ∃ W, W1.alloc (.cells #[.int .i64 0, .string ⟨#[]⟩, .string ⟨#[]⟩, .int .i64 0, .int .i64 0, .int .i64 0, .string ⟨#[]⟩, .slice none 0 0, .slice none 0 0, .slice none 0 0, .complex .f64 X Y] 46) = W := ⟨_, rfl⟩
  have hk2 : Kept W1 W2 := by rw [← hW2]; exact (Kept.refl _).al _
  have KW2 : Hid (Kept w W2) := KW1.out.then hk2
  have HQ2 : Hid (Rq W2 R g cap ts a false bad) := HR.out.kept KW2.out
  have hx : BoxS W2 B8 (⟨0, ⟨#[]⟩, ⟨#[]⟩, 0, 0, 0, ⟨#[]⟩, none, 0, 0, none, 0, 0, none, 0, 0, X, Y⟩ : Sv).cells := by rw [← hW2, ← hB8]; exact box_of (heap_alloc_new W1 _)
  have HXW2 : Hid (BoxS W2 B8 (⟨0, ⟨#[]⟩, ⟨#[]⟩, 0, 0, 0, ⟨#[]⟩, none, 0, 0, none, 0, 0, none, 0, 0, X, Y⟩ : Sv).cells) := hx
  have hzz : BoxS W2 w.heap.size (sv0 0 0).cells := hbz.kept hk2
  have HZW2 : Hid (BoxS W2 w.heap.size (sv0 0 0).cells) := hzz
  have x0 : W2.cell? ⟨B8, 0, none⟩ = some (.int .i64 (0)) := hx.cell 0 rfl
  have x1 : W2.cell? ⟨B8, 1, none⟩ = some (.string (⟨#[]⟩)) := hx.cell 1 rfl
  have x2 : W2.cell? ⟨B8, 2, none⟩ = some (.string (⟨#[]⟩)) := hx.cell 2 rfl
  have x3 : W2.cell? ⟨B8, 3, none⟩ = some (.int .i64 (0)) := hx.cell 3 rfl
  have x4 : W2.cell? ⟨B8, 4, none⟩ = some (.int .i64 (0)) := hx.cell 4 rfl
  have x5 : W2.cell? ⟨B8, 5, none⟩ = some (.int .i64 (0)) := hx.cell 5 rfl
  have x6 : W2.cell? ⟨B8, 6, none⟩ = some (.string (⟨#[]⟩)) := hx.cell 6 rfl
  have x7 : W2.cell? ⟨B8, 7, none⟩ = some (.slice none 0 0) := hx.cell 7 rfl
  have x8 : W2.cell? ⟨B8, 8, none⟩ = some (.slice none 0 0) := hx.cell 8 rfl
  have x9 : W2.cell? ⟨B8, 9, none⟩ = some (.slice none 0 0) := hx.cell 9 rfl
  have x10 : W2.cell? ⟨B8, 10, none⟩ = some (.complex .f64 X Y) := hx.cell 10 rfl
  have r0 : W2.cell? ⟨w.heap.size, 0, none⟩ = some (.int .i64 (0)) := hzz.cell 0 rfl
  have r1 : W2.cell? ⟨w.heap.size, 1, none⟩ = some (.string (⟨#[]⟩)) := hzz.cell 1 rfl
  have r2 : W2.cell? ⟨w.heap.size, 2, none⟩ = some (.string (⟨#[]⟩)) := hzz.cell 2 rfl
  have r3 : W2.cell? ⟨w.heap.size, 3, none⟩ = some (.int .i64 (0)) := hzz.cell 3 rfl
  have r4 : W2.cell? ⟨w.heap.size, 4, none⟩ = some (.int .i64 (0)) := hzz.cell 4 rfl
  have r5 : W2.cell? ⟨w.heap.size, 5, none⟩ = some (.int .i64 (0)) := hzz.cell 5 rfl
  have r6 : W2.cell? ⟨w.heap.size, 6, none⟩ = some (.string (⟨#[]⟩)) := hzz.cell 6 rfl
  have r7 : W2.cell? ⟨w.heap.size, 7, none⟩ = some (.slice none 0 0) := hzz.cell 7 rfl
  have r8 : W2.cell? ⟨w.heap.size, 8, none⟩ = some (.slice none 0 0) := hzz.cell 8 rfl
  have r9 : W2.cell? ⟨w.heap.size, 9, none⟩ = some (.slice none 0 0) := hzz.cell 9 rfl
  have r10 : W2.cell? ⟨w.heap.size, 10, none⟩ = some (.complex .f64 0 0) := hzz.cell 10 rfl
  have xf : ∀ j, W2.frozen? ⟨B8, j, none⟩ = false := hx.fz
  have rf : ∀ j, W2.frozen? ⟨w.heap.size, j, none⟩ = false := hzz.fz
  have xl : B8 < W2.heap.size := hx.lt
  have rl : w.heap.size < W2.heap.size := hzz.lt
  clear hx hzz
  have htk : BoxS W2 (w.heap.size + 1) [.int .i64 (kd : Int), .string (Px.ba tx), .int .i64 (nn : Int), .int .i64 (aa : Int)] := hbt.kept hk2
  have HTW2 : Hid (BoxS W2 (w.heap.size + 1) [.int .i64 (kd : Int), .string (Px.ba tx), .int .i64 (nn : Int), .int .i64 (aa : Int)]) := htk
  have u0 : W2.cell? ⟨w.heap.size + 1, 0, none⟩ = some (.int .i64 (kd : Int)) := htk.cell 0 rfl
  have u1 : W2.cell? ⟨w.heap.size + 1, 1, none⟩ = some (.string (Px.ba tx)) := htk.cell 1 rfl
  clear htk
  have hR2 := HQ2.out.rlt
  replace c1 := HQ2.out.c1
  replace z1 := HQ2.out.z 1
  have hBR : B8 ≠ R := by omega
  have hBg : B8 ≠ g := by omega
  have hBw : w.heap.size + 1 < B8 := by omega
  have hrR : w.heap.size ≠ R := by omega
  have htR : w.heap.size + 1 ≠ R := by omega
  have hrB : w.heap.size ≠ B8 := by omega
  have htB : w.heap.size + 1 ≠ B8 := by omega
  have HGW : Hid (g < w.heap.size) := hgw
  have LF : Hid (ts.length - (left ts a).length = a) := by show _ = _; rw [left_len]; have := HA.out; omega
  clear hbz hbt u3 hk2 hgw hlt1
  have h1 : kd = 1 := by rw [hkd.out, htx.out]; decide
  have hal2 : Pp.Alive (left ts (a + 1)) := by
    have := HAL.out.tail (.inl (by rw [hhd, h1]; show (1 : Nat) ≠ 4; decide))
    rwa [left_tail] at this
  have HAL2 : Hid (Pp.Alive (left ts (a + 1))) := hal2
  have HA2 : Hid (a + 1 < ts.length) := alive_lt hal2
  obtain ⟨W3, hW3⟩ : ∃ W, W2.setCell ⟨R, 1, none⟩ (.int .i64 ((a : Int) + 1)) = W := ⟨_, rfl⟩
  have hq3 := HQ2.out.at' (a + 1) (Nat.le_of_lt HA2.out)
  rw [show ((a + 1 : Nat) : Int) = (a : Int) + 1 by omega, hW3] at hq3
  have HQW3 : Hid (Rq W3 R g cap ts (a + 1) false bad) := hq3
  have hb23 : But R W2 W3 := by rw [← hW3]; exact (But.refl _ _).set _ _
  have HBW3 : Hid (But R w W3) := (But.of KW2.out).then hb23
  have HXW3 : Hid (BoxS W3 B8 (⟨0, ⟨#[]⟩, ⟨#[]⟩, 0, 0, 0, ⟨#[]⟩, none, 0, 0, none, 0, 0, none, 0, 0, X, Y⟩ : Sv).cells) := HXW2.out.but hb23 hBR
  have HZW3 : Hid (BoxS W3 w.heap.size (sv0 0 0).cells) := HZW2.out.but hb23 hrR
  have HTW3 : Hid (BoxS W3 (w.heap.size + 1) [.int .i64 (kd : Int), .string (Px.ba tx), .int .i64 (nn : Int), .int .i64 (aa : Int)]) := HTW2.out.but hb23 htR
  subst h1
  clear hq3 hb23 hal2 hw1 x0 x1 x2 x3 x4 x5 x6 x7 x8 x9 x10 r0 r1 r2 r3 r4 r5 r6 r7 r8 r9 r10 xf rf xl rl
  have htx1 := htx.out
  subst htx1
  clear htx
  have hP : Pp.bind Pp.name (fun a => Pp.ret (St.mk 9 (Px.ba a) Px.e0 0 ex0 [] [] X Y)) (left ts (a + 1)) = (o, m) := by
    have : Pp.behind (blk (plOf s ts)) 9 (X, Y) (left ts a).tail = (o, m) := hp
    rw [left_tail] at this
    exact this
  clear hp hhd hkd
  have e0 : ((Px.ba [103, 111, 116, 111]).toList == [108, 111, 99, 107]) = false := by rw [show (Px.ba [103, 111, 116, 111]).toList = [103, 111, 116, 111] by rw [toList_data]; rfl]; decide
  have e1 : ((Px.ba [103, 111, 116, 111]).toList == [117, 110, 108, 111, 99, 107]) = false := by rw [show (Px.ba [103, 111, 116, 111]).toList = [103, 111, 116, 111] by rw [toList_data]; rfl]; decide
  have e2 : ((Px.ba [103, 111, 116, 111]).toList == [103, 111, 116, 111]) = true := by rw [show (Px.ba [103, 111, 116, 111]).toList = [103, 111, 116, 111] by rw [toList_data]; rfl]; decide
  have e3 : ((Px.ba [103, 111, 116, 111]).toList == [108, 97, 98, 101, 108]) = false := by rw [show (Px.ba [103, 111, 116, 111]).toList = [103, 111, 116, 111] by rw [toList_data]; rfl]; decide
  have e4 : ((Px.ba [103, 111, 116, 111]).toList == [115, 101, 110, 100]) = false := by rw [show (Px.ba [103, 111, 116, 111]).toList = [103, 111, 116, 111] by rw [toList_data]; rfl]; decide
  have e5 : ((Px.ba [103, 111, 116, 111]).toList == [114, 101, 99, 118]) = false := by rw [show (Px.ba [103, 111, 116, 111]).toList = [103, 111, 116, 111] by rw [toList_data]; rfl]; decide
  have e6 : ((Px.ba [103, 111, 116, 111]).toList == [112, 114, 105, 110, 116]) = false := by rw [show (Px.ba [103, 111, 116, 111]).toList = [103, 111, 116, 111] by rw [toList_data]; rfl]; decide
  have e7 : ((Px.ba [103, 111, 116, 111]).toList == [105, 102]) = false := by rw [show (Px.ba [103, 111, 116, 111]).toList = [103, 111, 116, 111] by rw [toList_data]; rfl]; decide
  have e8 : ((Px.ba [103, 111, 116, 111]).toList == [114, 101, 112, 101, 97, 116]) = false := by rw [show (Px.ba [103, 111, 116, 111]).toList = [103, 111, 116, 111] by rw [toList_data]; rfl]; decide
  generalize Px.ba [103, 111, 116, 111] = TX at *
  have x0_W3 : W3.cell? ⟨B8, 0, none⟩ = some (.int .i64 (0)) := HXW3.out.cell 0 rfl
  have x1_W3 : W3.cell? ⟨B8, 1, none⟩ = some (.string (⟨#[]⟩)) := HXW3.out.cell 1 rfl
  have x2_W3 : W3.cell? ⟨B8, 2, none⟩ = some (.string (⟨#[]⟩)) := HXW3.out.cell 2 rfl
  have x3_W3 : W3.cell? ⟨B8, 3, none⟩ = some (.int .i64 (0)) := HXW3.out.cell 3 rfl
  have x4_W3 : W3.cell? ⟨B8, 4, none⟩ = some (.int .i64 (0)) := HXW3.out.cell 4 rfl
  have x5_W3 : W3.cell? ⟨B8, 5, none⟩ = some (.int .i64 (0)) := HXW3.out.cell 5 rfl
  have x6_W3 : W3.cell? ⟨B8, 6, none⟩ = some (.string (⟨#[]⟩)) := HXW3.out.cell 6 rfl
  have x7_W3 : W3.cell? ⟨B8, 7, none⟩ = some (.slice none 0 0) := HXW3.out.cell 7 rfl
  have x8_W3 : W3.cell? ⟨B8, 8, none⟩ = some (.slice none 0 0) := HXW3.out.cell 8 rfl
  have x9_W3 : W3.cell? ⟨B8, 9, none⟩ = some (.slice none 0 0) := HXW3.out.cell 9 rfl
  have x10_W3 : W3.cell? ⟨B8, 10, none⟩ = some (.complex .f64 X Y) := HXW3.out.cell 10 rfl
  have r0_W3 : W3.cell? ⟨w.heap.size, 0, none⟩ = some (.int .i64 (0)) := HZW3.out.cell 0 rfl
  have r1_W3 : W3.cell? ⟨w.heap.size, 1, none⟩ = some (.string (⟨#[]⟩)) := HZW3.out.cell 1 rfl
  have r2_W3 : W3.cell? ⟨w.heap.size, 2, none⟩ = some (.string (⟨#[]⟩)) := HZW3.out.cell 2 rfl
  have r3_W3 : W3.cell? ⟨w.heap.size, 3, none⟩ = some (.int .i64 (0)) := HZW3.out.cell 3 rfl
  have r4_W3 : W3.cell? ⟨w.heap.size, 4, none⟩ = some (.int .i64 (0)) := HZW3.out.cell 4 rfl
  have r5_W3 : W3.cell? ⟨w.heap.size, 5, none⟩ = some (.int .i64 (0)) := HZW3.out.cell 5 rfl
  have r6_W3 : W3.cell? ⟨w.heap.size, 6, none⟩ = some (.string (⟨#[]⟩)) := HZW3.out.cell 6 rfl
  have r7_W3 : W3.cell? ⟨w.heap.size, 7, none⟩ = some (.slice none 0 0) := HZW3.out.cell 7 rfl
  have r8_W3 : W3.cell? ⟨w.heap.size, 8, none⟩ = some (.slice none 0 0) := HZW3.out.cell 8 rfl
  have r9_W3 : W3.cell? ⟨w.heap.size, 9, none⟩ = some (.slice none 0 0) := HZW3.out.cell 9 rfl
  have r10_W3 : W3.cell? ⟨w.heap.size, 10, none⟩ = some (.complex .f64 0 0) := HZW3.out.cell 10 rfl
  have xf_W3 : ∀ j, W3.frozen? ⟨B8, j, none⟩ = false := HXW3.out.fz
  have rf_W3 : ∀ j, W3.frozen? ⟨w.heap.size, j, none⟩ = false := HZW3.out.fz
  have xl_W3 : B8 < W3.heap.size := HXW3.out.lt
  have rl_W3 : w.heap.size < W3.heap.size := HZW3.out.lt
  replace u1 : W3.cell? ⟨w.heap.size + 1, 1, none⟩ = some (.string TX) := HTW3.out.cell 1 rfl
  obtain ⟨Wc, hWc⟩ : ∃ W, ((W3).setCell ⟨B8, 0, none⟩ (.int .i64 2)).setCell ⟨B8, 0, none⟩ (.int .i64 9) = W := ⟨_, rfl⟩
  have HXWc : Hid (BoxS Wc B8 (⟨9, ⟨#[]⟩, ⟨#[]⟩, 0, 0, 0, ⟨#[]⟩, none, 0, 0, none, 0, 0, none, 0, 0, X, Y⟩ : Sv).cells) := by rw [← hWc]; exact ((((HXW3.out).setv 0 [.int .i64 2] (⟨2, ⟨#[]⟩, ⟨#[]⟩, 0, 0, 0, ⟨#[]⟩, none, 0, 0, none, 0, 0, none, 0, 0, X, Y⟩ : Sv).cells (by show 0 + 1 ≤ 11; decide) rfl)).setv 0 [.int .i64 9] (⟨9, ⟨#[]⟩, ⟨#[]⟩, 0, 0, 0, ⟨#[]⟩, none, 0, 0, none, 0, 0, none, 0, 0, X, Y⟩ : Sv).cells (by show 0 + 1 ≤ 11; decide) rfl)
  have HZWc : Hid (BoxS Wc w.heap.size (sv0 0 0).cells) := by rw [← hWc]; exact ((((HZW3.out).apart hrB 0 [.int .i64 2])).apart hrB 0 [.int .i64 9])
  have HBWc : Hid (But R w Wc) := by rw [← hWc]; exact ((((HBW3.out).sets (B := B8) (by omega) 0 [.int .i64 2])).sets (B := B8) (by omega) 0 [.int .i64 9])
  have HTWc : Hid (BoxS Wc (w.heap.size + 1) [.int .i64 ((1 : Nat) : Int), .string TX, .int .i64 (nn : Int), .int .i64 (aa : Int)]) := by rw [← hWc]; exact ((((HTW3.out).apart htB 0 [.int .i64 2])).apart htB 0 [.int .i64 9])
  have uWc : Wc.cell? ⟨w.heap.size + 1, 1, none⟩ = some (.string TX) := HTWc.out.cell 1 rfl
  have hqc : Rq Wc R g cap ts (a + 1) false bad := by rw [← hWc]; exact ((((HQW3.out).sets hBR hBg 0 [.int .i64 2])).sets hBR hBg 0 [.int .i64 9])
  cases hnm : isNmT (Px.hd (left ts (a + 1))) with
  | true =>
    have NM : Hid _ := rname_any hqc HA2.out (HOK.out.fit _ (List.getElem_mem HA2.out)) true (by rw [hnm]; rfl)
    have HNM : Hid (isNmT (Px.hd (left ts (a + 1))) = true) := hnm
    have HPO : Hid _ := hP
    clear hqc hnm hP
    go_wp2_with fail
    refine Calls.mono NM.out ?_
    rintro e w4 ⟨⟨v, rfl, hv⟩, hbn, hz⟩
    have HV : Hid _ := hv
    have HZ4 : Hid _ := hz
    clear x0_W3 x1_W3 x2_W3 x3_W3 x4_W3 x5_W3 x6_W3 x7_W3 x8_W3 x9_W3 x10_W3 r0_W3 r1_W3 r2_W3 r3_W3 r4_W3 r5_W3 r6_W3 r7_W3 r8_W3 r9_W3 r10_W3 xf_W3 rf_W3 xl_W3 rl_W3
    have HXw4 : Hid (BoxS w4 B8 (⟨9, ⟨#[]⟩, ⟨#[]⟩, 0, 0, 0, ⟨#[]⟩, none, 0, 0, none, 0, 0, none, 0, 0, X, Y⟩ : Sv).cells) := HXWc.out.but hbn hBR
    have HZw4 : Hid (BoxS w4 w.heap.size (sv0 0 0).cells) := HZWc.out.but hbn hrR
    have HBw4 : Hid (But R w w4) := HBWc.out.then hbn
    have HTw4 : Hid (BoxS w4 (w.heap.size + 1) [.int .i64 ((1 : Nat) : Int), .string TX, .int .i64 (nn : Int), .int .i64 (aa : Int)]) := HTWc.out.but hbn htR
    clear hbn
    clear hv hz
    have x0_w4 : w4.cell? ⟨B8, 0, none⟩ = some (.int .i64 (9)) := HXw4.out.cell 0 rfl
    have x1_w4 : w4.cell? ⟨B8, 1, none⟩ = some (.string (⟨#[]⟩)) := HXw4.out.cell 1 rfl
    have x2_w4 : w4.cell? ⟨B8, 2, none⟩ = some (.string (⟨#[]⟩)) := HXw4.out.cell 2 rfl
    have x3_w4 : w4.cell? ⟨B8, 3, none⟩ = some (.int .i64 (0)) := HXw4.out.cell 3 rfl
    have x4_w4 : w4.cell? ⟨B8, 4, none⟩ = some (.int .i64 (0)) := HXw4.out.cell 4 rfl
    have x5_w4 : w4.cell? ⟨B8, 5, none⟩ = some (.int .i64 (0)) := HXw4.out.cell 5 rfl
    have x6_w4 : w4.cell? ⟨B8, 6, none⟩ = some (.string (⟨#[]⟩)) := HXw4.out.cell 6 rfl
    have x7_w4 : w4.cell? ⟨B8, 7, none⟩ = some (.slice none 0 0) := HXw4.out.cell 7 rfl
    have x8_w4 : w4.cell? ⟨B8, 8, none⟩ = some (.slice none 0 0) := HXw4.out.cell 8 rfl
    have x9_w4 : w4.cell? ⟨B8, 9, none⟩ = some (.slice none 0 0) := HXw4.out.cell 9 rfl
    have x10_w4 : w4.cell? ⟨B8, 10, none⟩ = some (.complex .f64 X Y) := HXw4.out.cell 10 rfl
    have r0_w4 : w4.cell? ⟨w.heap.size, 0, none⟩ = some (.int .i64 (0)) := HZw4.out.cell 0 rfl
    have r1_w4 : w4.cell? ⟨w.heap.size, 1, none⟩ = some (.string (⟨#[]⟩)) := HZw4.out.cell 1 rfl
    have r2_w4 : w4.cell? ⟨w.heap.size, 2, none⟩ = some (.string (⟨#[]⟩)) := HZw4.out.cell 2 rfl
    have r3_w4 : w4.cell? ⟨w.heap.size, 3, none⟩ = some (.int .i64 (0)) := HZw4.out.cell 3 rfl
    have r4_w4 : w4.cell? ⟨w.heap.size, 4, none⟩ = some (.int .i64 (0)) := HZw4.out.cell 4 rfl
    have r5_w4 : w4.cell? ⟨w.heap.size, 5, none⟩ = some (.int .i64 (0)) := HZw4.out.cell 5 rfl
    have r6_w4 : w4.cell? ⟨w.heap.size, 6, none⟩ = some (.string (⟨#[]⟩)) := HZw4.out.cell 6 rfl
    have r7_w4 : w4.cell? ⟨w.heap.size, 7, none⟩ = some (.slice none 0 0) := HZw4.out.cell 7 rfl
    have r8_w4 : w4.cell? ⟨w.heap.size, 8, none⟩ = some (.slice none 0 0) := HZw4.out.cell 8 rfl
    have r9_w4 : w4.cell? ⟨w.heap.size, 9, none⟩ = some (.slice none 0 0) := HZw4.out.cell 9 rfl
    have r10_w4 : w4.cell? ⟨w.heap.size, 10, none⟩ = some (.complex .f64 0 0) := HZw4.out.cell 10 rfl
    have xf_w4 : ∀ j, w4.frozen? ⟨B8, j, none⟩ = false := HXw4.out.fz
    have rf_w4 : ∀ j, w4.frozen? ⟨w.heap.size, j, none⟩ = false := HZw4.out.fz
    have xl_w4 : B8 < w4.heap.size := HXw4.out.lt
    have rl_w4 : w.heap.size < w4.heap.size := HZw4.out.lt
    obtain ⟨Wd, hWd⟩ : ∃ W, (w4).setCell ⟨B8, 1, none⟩ (.string v) = W := ⟨_, rfl⟩
    have HXWd : Hid (BoxS Wd B8 (⟨9, v, ⟨#[]⟩, 0, 0, 0, ⟨#[]⟩, none, 0, 0, none, 0, 0, none, 0, 0, X, Y⟩ : Sv).cells) := by rw [← hWd]; exact ((HXw4.out).setv 1 [.string v] (⟨9, v, ⟨#[]⟩, 0, 0, 0, ⟨#[]⟩, none, 0, 0, none, 0, 0, none, 0, 0, X, Y⟩ : Sv).cells (by show 1 + 1 ≤ 11; decide) rfl)
    have HZWd : Hid (BoxS Wd w.heap.size (sv0 0 0).cells) := by rw [← hWd]; exact ((HZw4.out).apart hrB 1 [.string v])
    have HBWd : Hid (But R w Wd) := by rw [← hWd]; exact ((HBw4.out).sets (B := B8) (by omega) 1 [.string v])
    have HTWd : Hid (BoxS Wd (w.heap.size + 1) [.int .i64 ((1 : Nat) : Int), .string TX, .int .i64 (nn : Int), .int .i64 (aa : Int)]) := by rw [← hWd]; exact ((HTw4.out).apart htB 1 [.string v])
    have uWd : Wd.cell? ⟨w.heap.size + 1, 1, none⟩ = some (.string TX) := HTWd.out.cell 1 rfl
    have x0_Wd : Wd.cell? ⟨B8, 0, none⟩ = some (.int .i64 (9)) := HXWd.out.cell 0 rfl
    have x1_Wd : Wd.cell? ⟨B8, 1, none⟩ = some (.string (v)) := HXWd.out.cell 1 rfl
    have x2_Wd : Wd.cell? ⟨B8, 2, none⟩ = some (.string (⟨#[]⟩)) := HXWd.out.cell 2 rfl
    have x3_Wd : Wd.cell? ⟨B8, 3, none⟩ = some (.int .i64 (0)) := HXWd.out.cell 3 rfl
    have x4_Wd : Wd.cell? ⟨B8, 4, none⟩ = some (.int .i64 (0)) := HXWd.out.cell 4 rfl
    have x5_Wd : Wd.cell? ⟨B8, 5, none⟩ = some (.int .i64 (0)) := HXWd.out.cell 5 rfl
    have x6_Wd : Wd.cell? ⟨B8, 6, none⟩ = some (.string (⟨#[]⟩)) := HXWd.out.cell 6 rfl
    have x7_Wd : Wd.cell? ⟨B8, 7, none⟩ = some (.slice none 0 0) := HXWd.out.cell 7 rfl
    have x8_Wd : Wd.cell? ⟨B8, 8, none⟩ = some (.slice none 0 0) := HXWd.out.cell 8 rfl
    have x9_Wd : Wd.cell? ⟨B8, 9, none⟩ = some (.slice none 0 0) := HXWd.out.cell 9 rfl
    have x10_Wd : Wd.cell? ⟨B8, 10, none⟩ = some (.complex .f64 X Y) := HXWd.out.cell 10 rfl
    have r0_Wd : Wd.cell? ⟨w.heap.size, 0, none⟩ = some (.int .i64 (0)) := HZWd.out.cell 0 rfl
    have r1_Wd : Wd.cell? ⟨w.heap.size, 1, none⟩ = some (.string (⟨#[]⟩)) := HZWd.out.cell 1 rfl
    have r2_Wd : Wd.cell? ⟨w.heap.size, 2, none⟩ = some (.string (⟨#[]⟩)) := HZWd.out.cell 2 rfl
    have r3_Wd : Wd.cell? ⟨w.heap.size, 3, none⟩ = some (.int .i64 (0)) := HZWd.out.cell 3 rfl
    have r4_Wd : Wd.cell? ⟨w.heap.size, 4, none⟩ = some (.int .i64 (0)) := HZWd.out.cell 4 rfl
    have r5_Wd : Wd.cell? ⟨w.heap.size, 5, none⟩ = some (.int .i64 (0)) := HZWd.out.cell 5 rfl
    have r6_Wd : Wd.cell? ⟨w.heap.size, 6, none⟩ = some (.string (⟨#[]⟩)) := HZWd.out.cell 6 rfl
    have r7_Wd : Wd.cell? ⟨w.heap.size, 7, none⟩ = some (.slice none 0 0) := HZWd.out.cell 7 rfl
    have r8_Wd : Wd.cell? ⟨w.heap.size, 8, none⟩ = some (.slice none 0 0) := HZWd.out.cell 8 rfl
    have r9_Wd : Wd.cell? ⟨w.heap.size, 9, none⟩ = some (.slice none 0 0) := HZWd.out.cell 9 rfl
    have r10_Wd : Wd.cell? ⟨w.heap.size, 10, none⟩ = some (.complex .f64 0 0) := HZWd.out.cell 10 rfl
    have xf_Wd : ∀ j, Wd.frozen? ⟨B8, j, none⟩ = false := HXWd.out.fz
    have rf_Wd : ∀ j, Wd.frozen? ⟨w.heap.size, j, none⟩ = false := HZWd.out.fz
    have xl_Wd : B8 < Wd.heap.size := HXWd.out.lt
    have rl_Wd : w.heap.size < Wd.heap.size := HZWd.out.lt
    go_wp2_with fail
    obtain ⟨hO1, hO2⟩ := name_yes HNM.out HPO.out
    subst hO1 hO2
    have hq : Rq Wd R g cap ts (a + 1 + 1) false bad := by rw [← hWd]; exact (Rz_yes HZ4.out).sets hBR hBg 1 [.string v]
    have hv := HV.out trivial
    refine reds_end (⟨9, v, ⟨#[]⟩, 0, 0, 0, ⟨#[]⟩, none, 0, 0, none, 0, 0, none, 0, 0, X, Y⟩ : Sv) rfl HZWd.out HBWd.out hRw HGW.out (fun x hx => ?_) (fun hx => by cases hx)
    cases hx
    refine ⟨⟨rfl, hv, rfl, rfl, rfl, rfl, rfl, rfl, rfl, ExsD.nil _ _, StsD.nil' _ _, StsD.nil' _ _⟩, ?_⟩
    rw [left_tail, left_len, show ts.length - (ts.length - (a + 1 + 1)) = a + 1 + 1 by have := HA2.out; omega]
    exact hq
  | false =>
    have NM : Hid _ := rname_any hqc HA2.out (HOK.out.fit _ (List.getElem_mem HA2.out)) false (by rw [hnm]; rfl)
    have HNM : Hid (isNmT (Px.hd (left ts (a + 1))) = false) := hnm
    have HPO : Hid _ := hP
    clear hqc hnm hP
    go_wp2_with fail
    refine Calls.mono NM.out ?_
    rintro e w4 ⟨⟨v, rfl, hv⟩, hbn, hz⟩
    have HV : Hid _ := hv
    have HZ4 : Hid _ := hz
    clear x0_W3 x1_W3 x2_W3 x3_W3 x4_W3 x5_W3 x6_W3 x7_W3 x8_W3 x9_W3 x10_W3 r0_W3 r1_W3 r2_W3 r3_W3 r4_W3 r5_W3 r6_W3 r7_W3 r8_W3 r9_W3 r10_W3 xf_W3 rf_W3 xl_W3 rl_W3
    have HXw4 : Hid (BoxS w4 B8 (⟨9, ⟨#[]⟩, ⟨#[]⟩, 0, 0, 0, ⟨#[]⟩, none, 0, 0, none, 0, 0, none, 0, 0, X, Y⟩ : Sv).cells) := HXWc.out.but hbn hBR
    have HZw4 : Hid (BoxS w4 w.heap.size (sv0 0 0).cells) := HZWc.out.but hbn hrR
    have HBw4 : Hid (But R w w4) := HBWc.out.then hbn
    have HTw4 : Hid (BoxS w4 (w.heap.size + 1) [.int .i64 ((1 : Nat) : Int), .string TX, .int .i64 (nn : Int), .int .i64 (aa : Int)]) := HTWc.out.but hbn htR
    clear hbn
    clear hv hz
    have x0_w4 : w4.cell? ⟨B8, 0, none⟩ = some (.int .i64 (9)) := HXw4.out.cell 0 rfl
    have x1_w4 : w4.cell? ⟨B8, 1, none⟩ = some (.string (⟨#[]⟩)) := HXw4.out.cell 1 rfl
    have x2_w4 : w4.cell? ⟨B8, 2, none⟩ = some (.string (⟨#[]⟩)) := HXw4.out.cell 2 rfl
    have x3_w4 : w4.cell? ⟨B8, 3, none⟩ = some (.int .i64 (0)) := HXw4.out.cell 3 rfl
    have x4_w4 : w4.cell? ⟨B8, 4, none⟩ = some (.int .i64 (0)) := HXw4.out.cell 4 rfl
    have x5_w4 : w4.cell? ⟨B8, 5, none⟩ = some (.int .i64 (0)) := HXw4.out.cell 5 rfl
    have x6_w4 : w4.cell? ⟨B8, 6, none⟩ = some (.string (⟨#[]⟩)) := HXw4.out.cell 6 rfl
    have x7_w4 : w4.cell? ⟨B8, 7, none⟩ = some (.slice none 0 0) := HXw4.out.cell 7 rfl
    have x8_w4 : w4.cell? ⟨B8, 8, none⟩ = some (.slice none 0 0) := HXw4.out.cell 8 rfl
    have x9_w4 : w4.cell? ⟨B8, 9, none⟩ = some (.slice none 0 0) := HXw4.out.cell 9 rfl
    have x10_w4 : w4.cell? ⟨B8, 10, none⟩ = some (.complex .f64 X Y) := HXw4.out.cell 10 rfl
    have r0_w4 : w4.cell? ⟨w.heap.size, 0, none⟩ = some (.int .i64 (0)) := HZw4.out.cell 0 rfl
    have r1_w4 : w4.cell? ⟨w.heap.size, 1, none⟩ = some (.string (⟨#[]⟩)) := HZw4.out.cell 1 rfl
    have r2_w4 : w4.cell? ⟨w.heap.size, 2, none⟩ = some (.string (⟨#[]⟩)) := HZw4.out.cell 2 rfl
    have r3_w4 : w4.cell? ⟨w.heap.size, 3, none⟩ = some (.int .i64 (0)) := HZw4.out.cell 3 rfl
    have r4_w4 : w4.cell? ⟨w.heap.size, 4, none⟩ = some (.int .i64 (0)) := HZw4.out.cell 4 rfl
    have r5_w4 : w4.cell? ⟨w.heap.size, 5, none⟩ = some (.int .i64 (0)) := HZw4.out.cell 5 rfl
    have r6_w4 : w4.cell? ⟨w.heap.size, 6, none⟩ = some (.string (⟨#[]⟩)) := HZw4.out.cell 6 rfl
    have r7_w4 : w4.cell? ⟨w.heap.size, 7, none⟩ = some (.slice none 0 0) := HZw4.out.cell 7 rfl
    have r8_w4 : w4.cell? ⟨w.heap.size, 8, none⟩ = some (.slice none 0 0) := HZw4.out.cell 8 rfl
    have r9_w4 : w4.cell? ⟨w.heap.size, 9, none⟩ = some (.slice none 0 0) := HZw4.out.cell 9 rfl
    have r10_w4 : w4.cell? ⟨w.heap.size, 10, none⟩ = some (.complex .f64 0 0) := HZw4.out.cell 10 rfl
    have xf_w4 : ∀ j, w4.frozen? ⟨B8, j, none⟩ = false := HXw4.out.fz
    have rf_w4 : ∀ j, w4.frozen? ⟨w.heap.size, j, none⟩ = false := HZw4.out.fz
    have xl_w4 : B8 < w4.heap.size := HXw4.out.lt
    have rl_w4 : w.heap.size < w4.heap.size := HZw4.out.lt
    obtain ⟨Wd, hWd⟩ : ∃ W, (w4).setCell ⟨B8, 1, none⟩ (.string v) = W := ⟨_, rfl⟩
    have HXWd : Hid (BoxS Wd B8 (⟨9, v, ⟨#[]⟩, 0, 0, 0, ⟨#[]⟩, none, 0, 0, none, 0, 0, none, 0, 0, X, Y⟩ : Sv).cells) := by rw [← hWd]; exact ((HXw4.out).setv 1 [.string v] (⟨9, v, ⟨#[]⟩, 0, 0, 0, ⟨#[]⟩, none, 0, 0, none, 0, 0, none, 0, 0, X, Y⟩ : Sv).cells (by show 1 + 1 ≤ 11; decide) rfl)
    have HZWd : Hid (BoxS Wd w.heap.size (sv0 0 0).cells) := by rw [← hWd]; exact ((HZw4.out).apart hrB 1 [.string v])
    have HBWd : Hid (But R w Wd) := by rw [← hWd]; exact ((HBw4.out).sets (B := B8) (by omega) 1 [.string v])
    have HTWd : Hid (BoxS Wd (w.heap.size + 1) [.int .i64 ((1 : Nat) : Int), .string TX, .int .i64 (nn : Int), .int .i64 (aa : Int)]) := by rw [← hWd]; exact ((HTw4.out).apart htB 1 [.string v])
    have uWd : Wd.cell? ⟨w.heap.size + 1, 1, none⟩ = some (.string TX) := HTWd.out.cell 1 rfl
    have x0_Wd : Wd.cell? ⟨B8, 0, none⟩ = some (.int .i64 (9)) := HXWd.out.cell 0 rfl
    have x1_Wd : Wd.cell? ⟨B8, 1, none⟩ = some (.string (v)) := HXWd.out.cell 1 rfl
    have x2_Wd : Wd.cell? ⟨B8, 2, none⟩ = some (.string (⟨#[]⟩)) := HXWd.out.cell 2 rfl
    have x3_Wd : Wd.cell? ⟨B8, 3, none⟩ = some (.int .i64 (0)) := HXWd.out.cell 3 rfl
    have x4_Wd : Wd.cell? ⟨B8, 4, none⟩ = some (.int .i64 (0)) := HXWd.out.cell 4 rfl
    have x5_Wd : Wd.cell? ⟨B8, 5, none⟩ = some (.int .i64 (0)) := HXWd.out.cell 5 rfl
    have x6_Wd : Wd.cell? ⟨B8, 6, none⟩ = some (.string (⟨#[]⟩)) := HXWd.out.cell 6 rfl
    have x7_Wd : Wd.cell? ⟨B8, 7, none⟩ = some (.slice none 0 0) := HXWd.out.cell 7 rfl
    have x8_Wd : Wd.cell? ⟨B8, 8, none⟩ = some (.slice none 0 0) := HXWd.out.cell 8 rfl
    have x9_Wd : Wd.cell? ⟨B8, 9, none⟩ = some (.slice none 0 0) := HXWd.out.cell 9 rfl
    have x10_Wd : Wd.cell? ⟨B8, 10, none⟩ = some (.complex .f64 X Y) := HXWd.out.cell 10 rfl
    have r0_Wd : Wd.cell? ⟨w.heap.size, 0, none⟩ = some (.int .i64 (0)) := HZWd.out.cell 0 rfl
    have r1_Wd : Wd.cell? ⟨w.heap.size, 1, none⟩ = some (.string (⟨#[]⟩)) := HZWd.out.cell 1 rfl
    have r2_Wd : Wd.cell? ⟨w.heap.size, 2, none⟩ = some (.string (⟨#[]⟩)) := HZWd.out.cell 2 rfl
    have r3_Wd : Wd.cell? ⟨w.heap.size, 3, none⟩ = some (.int .i64 (0)) := HZWd.out.cell 3 rfl
    have r4_Wd : Wd.cell? ⟨w.heap.size, 4, none⟩ = some (.int .i64 (0)) := HZWd.out.cell 4 rfl
    have r5_Wd : Wd.cell? ⟨w.heap.size, 5, none⟩ = some (.int .i64 (0)) := HZWd.out.cell 5 rfl
    have r6_Wd : Wd.cell? ⟨w.heap.size, 6, none⟩ = some (.string (⟨#[]⟩)) := HZWd.out.cell 6 rfl
    have r7_Wd : Wd.cell? ⟨w.heap.size, 7, none⟩ = some (.slice none 0 0) := HZWd.out.cell 7 rfl
    have r8_Wd : Wd.cell? ⟨w.heap.size, 8, none⟩ = some (.slice none 0 0) := HZWd.out.cell 8 rfl
    have r9_Wd : Wd.cell? ⟨w.heap.size, 9, none⟩ = some (.slice none 0 0) := HZWd.out.cell 9 rfl
    have r10_Wd : Wd.cell? ⟨w.heap.size, 10, none⟩ = some (.complex .f64 0 0) := HZWd.out.cell 10 rfl
    have xf_Wd : ∀ j, Wd.frozen? ⟨B8, j, none⟩ = false := HXWd.out.fz
    have rf_Wd : ∀ j, Wd.frozen? ⟨w.heap.size, j, none⟩ = false := HZWd.out.fz
    have xl_Wd : B8 < Wd.heap.size := HXWd.out.lt
    have rl_Wd : w.heap.size < Wd.heap.size := HZWd.out.lt
    go_wp2_with fail
    obtain ⟨hO1, hO2⟩ := name_no (nm_no HOK.out HA2.out HNM.out) HPO.out
    subst hO1 hO2
    have hq : Rq Wd R g cap ts (a + 1) true (a + 1) := by rw [← hWd]; exact (Rz_no HZ4.out).sets hBR hBg 1 [.string v]
    refine reds_end (⟨9, v, ⟨#[]⟩, 0, 0, 0, ⟨#[]⟩, none, 0, 0, none, 0, 0, none, 0, 0, X, Y⟩ : Sv) rfl HZWd.out HBWd.out hRw HGW.out ?hsome (fun _ => ⟨a + 1, HA2.out, ?_⟩)
    case hsome => exact fun x hx => by cases hx
    rw [left_len, show ts.length - (ts.length - (a + 1)) = a + 1 by have := HA2.out; omega]
    exact hq
set_option maxRecDepth 100000 in
set_option maxHeartbeats 8000000 in
theorem rstmt_label (deep : Int) (blk : Pp.Pl → Pp.R (List St)) {R g cap : Nat} {s : ByteArray} {ts : List Lx.Tk} {a bad : Nat} {w : World} (h : Rq w R g cap ts a false bad) (hal : Pp.Alive (left ts a)) (hok : TkOk s ts) (o : Option St) (m : List Lx.Core) (htx : (Px.hd (left ts a)).2.1 = [108, 97, 98, 101, 108]) (hp : Pp.stmt (plOf s ts) (blk (plOf s ts)) (left ts a) = (o, m)) :
    Calls Try.prog 62 #[.pointer (some ⟨R, 0, none⟩), .string s, .int .i64 deep] w fun e w' => RedS R g cap ts bad w o m e w' := by
  have ha := alive_lt hal
  have HR : Hid (Rq w R g cap ts a false bad) := h
  have hRw := h.rlt
  have hgw := h.lt
  have c0 := h.c0
  have c1 := h.c1
  have z1 := h.z 1
  have hf := h.few
  have hwr : IntKind.i64.wrap ((a : Int) + 1) = (a : Int) + 1 := by rw [IntKind.wrap_i64]; omega
  have hhd := hd_in ts a ha
  rw [hhd] at htx
  replace htx : Hid (ts[a].text = [108, 97, 98, 101, 108]) := htx
  have hmem := List.getElem_mem ha
  have hw1 : ts[a].kind = 1 → Lx.isWord ts[a].text = true := hok.fit _ hmem
  have hkd : Hid (ts[a].kind = kindOf ts[a].text) := hok.kd _ hmem
  have HPL : Hid (∀ W, Calls Try.prog 50 #[.string s, .int .i64 (ts[a].at' : Int)] W fun e w' => e = .returned (.complex .f64 (lineW s ts[a].at') (colW s ts[a].at')) ∧ w' = W) := fun W => place_in s _ hok.sz (hok.at' _ hmem) W
  have hpl : plOf s ts (left ts a).length = (lineW s ts[a].at', colW s ts[a].at') := plOf_at s ts a ha
  obtain ⟨t0, t1, t2, t3⟩ := h.tok a ha
  have hai : (a : Int) < (ts.length : Int) := by omega
  have HA : Hid (a < ts.length) := ha
  have HAL : Hid (Pp.Alive (left ts a)) := hal
  have HOK : Hid (TkOk s ts) := hok
  have HHD : Hid _ := hhd
  have HPP : Hid _ := hpl
  unfold Pp.stmt at hp
  rw [hpl, hhd] at hp
  generalize lineW s ts[a].at' = X at *
  generalize colW s ts[a].at' = Y at *
  generalize ts[a].kind = kd at *
  generalize ts[a].text = tx at *
  generalize ts[a].n = nn at *
  generalize ts[a].at' = aa at *
  obtain ⟨N, hN⟩ : ∃ N, ts.length = N := ⟨_, rfl⟩
  have HN : Hid (ts.length = N) := hN
  rw [hN] at c0 hf hai
  clear h hal hok ha hN hmem hpl
  go_enter Try.func62, Try.ntmps62
  go_wp2_with fail
  go_region
  obtain ⟨W1, hW1⟩ : ∃ W1, ((sz w).alloc (.cells #[.int .i64 (kd : Int), .string (Px.ba tx), .int .i64 (nn : Int), .int .i64 (aa : Int)] 99)).drew = W1 := ⟨_, rfl⟩
  have hkw : Kept w (sz w) := (Kept.refl _).al _
  have hk1 : Kept (sz w) W1 := by rw [← hW1]; exact ((Kept.refl _).al _).dr
  have KW1 : Hid (Kept w W1) := hkw.then hk1
  have hbz : BoxS W1 w.heap.size (sv0 0 0).cells := (box_of (heap_alloc_new w _)).kept hk1
  have hbt : BoxS W1 (w.heap.size + 1) [.int .i64 (kd : Int), .string (Px.ba tx), .int .i64 (nn : Int), .int .i64 (aa : Int)] := by
    have h1 : BoxS ((sz w).alloc (.cells #[.int .i64 (kd : Int), .string (Px.ba tx), .int .i64 (nn : Int), .int .i64 (aa : Int)] 99)) (sz w).heap.size [.int .i64 (kd : Int), .string (Px.ba tx), .int .i64 (nn : Int), .int .i64 (aa : Int)] := box_of (heap_alloc_new (sz w) _)
    rw [show (sz w).heap.size = w.heap.size + 1 by simp] at h1
    rw [← hW1]
    exact h1.kept (Kept.refl _).dr
  have u3 : W1.cell? ⟨w.heap.size + 1, 3, none⟩ = some (.int .i64 (aa : Int)) := hbt.cell 3 rfl
  have hlt1 : w.heap.size + 1 < W1.heap.size := hbt.lt
  rw [hW1]
  clear hW1 hk1 hkw c0 t0 t1 t2 t3
  go_wp2_with fail
  refine (HPL.out _).mono ?_
  rintro e W1 ⟨rfl, rfl⟩
  obtain ⟨B8, hB8⟩ : ∃ B, W1.heap.size = B := ⟨_, rfl⟩
  obtain ⟨W2, hW2⟩ : ∃ W, W1.alloc (.cells #[.int .i64 0, .string ⟨#[]⟩, .string ⟨#[]⟩, .int .i64 0, .int .i64 0, .int .i64 0, .string ⟨#[]⟩, .slice none 0 0, .slice none 0 0, .slice none 0 0, .complex .f64 X Y] 46) = W := ⟨_, rfl⟩
  have hk2 : Kept W1 W2 := by rw [← hW2]; exact (Kept.refl _).al _
  have KW2 : Hid (Kept w W2) := KW1.out.then hk2
  have HQ2 : Hid (Rq W2 R g cap ts a false bad) := HR.out.kept KW2.out
  have hx : BoxS W2 B8 (⟨0, ⟨#[]⟩, ⟨#[]⟩, 0, 0, 0, ⟨#[]⟩, none, 0, 0, none, 0, 0, none, 0, 0, X, Y⟩ : Sv).cells := by rw [← hW2, ← hB8]; exact box_of (heap_alloc_new W1 _)
  have HXW2 : Hid (BoxS W2 B8 (⟨0, ⟨#[]⟩, ⟨#[]⟩, 0, 0, 0, ⟨#[]⟩, none, 0, 0, none, 0, 0, none, 0, 0, X, Y⟩ : Sv).cells) := hx
  have hzz : BoxS W2 w.heap.size (sv0 0 0).cells := hbz.kept hk2
  have HZW2 : Hid (BoxS W2 w.heap.size (sv0 0 0).cells) := hzz
  have x0 : W2.cell? ⟨B8, 0, none⟩ = some (.int .i64 (0)) := hx.cell 0 rfl
  have x1 : W2.cell? ⟨B8, 1, none⟩ = some (.string (⟨#[]⟩)) := hx.cell 1 rfl
  have x2 : W2.cell? ⟨B8, 2, none⟩ = some (.string (⟨#[]⟩)) := hx.cell 2 rfl
  have x3 : W2.cell? ⟨B8, 3, none⟩ = some (.int .i64 (0)) := hx.cell 3 rfl
  have x4 : W2.cell? ⟨B8, 4, none⟩ = some (.int .i64 (0)) := hx.cell 4 rfl
  have x5 : W2.cell? ⟨B8, 5, none⟩ = some (.int .i64 (0)) := hx.cell 5 rfl
  have x6 : W2.cell? ⟨B8, 6, none⟩ = some (.string (⟨#[]⟩)) := hx.cell 6 rfl
  have x7 : W2.cell? ⟨B8, 7, none⟩ = some (.slice none 0 0) := hx.cell 7 rfl
  have x8 : W2.cell? ⟨B8, 8, none⟩ = some (.slice none 0 0) := hx.cell 8 rfl
  have x9 : W2.cell? ⟨B8, 9, none⟩ = some (.slice none 0 0) := hx.cell 9 rfl
  have x10 : W2.cell? ⟨B8, 10, none⟩ = some (.complex .f64 X Y) := hx.cell 10 rfl
  have r0 : W2.cell? ⟨w.heap.size, 0, none⟩ = some (.int .i64 (0)) := hzz.cell 0 rfl
  have r1 : W2.cell? ⟨w.heap.size, 1, none⟩ = some (.string (⟨#[]⟩)) := hzz.cell 1 rfl
  have r2 : W2.cell? ⟨w.heap.size, 2, none⟩ = some (.string (⟨#[]⟩)) := hzz.cell 2 rfl
  have r3 : W2.cell? ⟨w.heap.size, 3, none⟩ = some (.int .i64 (0)) := hzz.cell 3 rfl
  have r4 : W2.cell? ⟨w.heap.size, 4, none⟩ = some (.int .i64 (0)) := hzz.cell 4 rfl
  have r5 : W2.cell? ⟨w.heap.size, 5, none⟩ = some (.int .i64 (0)) := hzz.cell 5 rfl
  have r6 : W2.cell? ⟨w.heap.size, 6, none⟩ = some (.string (⟨#[]⟩)) := hzz.cell 6 rfl
  have r7 : W2.cell? ⟨w.heap.size, 7, none⟩ = some (.slice none 0 0) := hzz.cell 7 rfl
  have r8 : W2.cell? ⟨w.heap.size, 8, none⟩ = some (.slice none 0 0) := hzz.cell 8 rfl
  have r9 : W2.cell? ⟨w.heap.size, 9, none⟩ = some (.slice none 0 0) := hzz.cell 9 rfl
  have r10 : W2.cell? ⟨w.heap.size, 10, none⟩ = some (.complex .f64 0 0) := hzz.cell 10 rfl
  have xf : ∀ j, W2.frozen? ⟨B8, j, none⟩ = false := hx.fz
  have rf : ∀ j, W2.frozen? ⟨w.heap.size, j, none⟩ = false := hzz.fz
  have xl : B8 < W2.heap.size := hx.lt
  have rl : w.heap.size < W2.heap.size := hzz.lt
  clear hx hzz
  have htk : BoxS W2 (w.heap.size + 1) [.int .i64 (kd : Int), .string (Px.ba tx), .int .i64 (nn : Int), .int .i64 (aa : Int)] := hbt.kept hk2
  have HTW2 : Hid (BoxS W2 (w.heap.size + 1) [.int .i64 (kd : Int), .string (Px.ba tx), .int .i64 (nn : Int), .int .i64 (aa : Int)]) := htk
  have u0 : W2.cell? ⟨w.heap.size + 1, 0, none⟩ = some (.int .i64 (kd : Int)) := htk.cell 0 rfl
  have u1 : W2.cell? ⟨w.heap.size + 1, 1, none⟩ = some (.string (Px.ba tx)) := htk.cell 1 rfl
  clear htk
  have hR2 := HQ2.out.rlt
  replace c1 := HQ2.out.c1
  replace z1 := HQ2.out.z 1
  have hBR : B8 ≠ R := by omega
  have hBg : B8 ≠ g := by omega
  have hBw : w.heap.size + 1 < B8 := by omega
  have hrR : w.heap.size ≠ R := by omega
  have htR : w.heap.size + 1 ≠ R := by omega
  have hrB : w.heap.size ≠ B8 := by omega
  have htB : w.heap.size + 1 ≠ B8 := by omega
  have HGW : Hid (g < w.heap.size) := hgw
  have LF : Hid (ts.length - (left ts a).length = a) := by show _ = _; rw [left_len]; have := HA.out; omega
  clear hbz hbt u3 hk2 hgw hlt1
  have h1 : kd = 1 := by rw [hkd.out, htx.out]; decide
  have hal2 : Pp.Alive (left ts (a + 1)) := by
    have := HAL.out.tail (.inl (by rw [hhd, h1]; show (1 : Nat) ≠ 4; decide))
    rwa [left_tail] at this
  have HAL2 : Hid (Pp.Alive (left ts (a + 1))) := hal2
  have HA2 : Hid (a + 1 < ts.length) := alive_lt hal2
  obtain ⟨W3, hW3⟩ : ∃ W, W2.setCell ⟨R, 1, none⟩ (.int .i64 ((a : Int) + 1)) = W := ⟨_, rfl⟩
  have hq3 := HQ2.out.at' (a + 1) (Nat.le_of_lt HA2.out)
  rw [show ((a + 1 : Nat) : Int) = (a : Int) + 1 by omega, hW3] at hq3
  have HQW3 : Hid (Rq W3 R g cap ts (a + 1) false bad) := hq3
  have hb23 : But R W2 W3 := by rw [← hW3]; exact (But.refl _ _).set _ _
  have HBW3 : Hid (But R w W3) := (But.of KW2.out).then hb23
  have HXW3 : Hid (BoxS W3 B8 (⟨0, ⟨#[]⟩, ⟨#[]⟩, 0, 0, 0, ⟨#[]⟩, none, 0, 0, none, 0, 0, none, 0, 0, X, Y⟩ : Sv).cells) := HXW2.out.but hb23 hBR
  have HZW3 : Hid (BoxS W3 w.heap.size (sv0 0 0).cells) := HZW2.out.but hb23 hrR
  have HTW3 : Hid (BoxS W3 (w.heap.size + 1) [.int .i64 (kd : Int), .string (Px.ba tx), .int .i64 (nn : Int), .int .i64 (aa : Int)]) := HTW2.out.but hb23 htR
  subst h1
  clear hq3 hb23 hal2 hw1 x0 x1 x2 x3 x4 x5 x6 x7 x8 x9 x10 r0 r1 r2 r3 r4 r5 r6 r7 r8 r9 r10 xf rf xl rl
  have htx1 := htx.out
  subst htx1
  clear htx
  have hP : Pp.bind Pp.name (fun a => Pp.ret (St.mk 10 (Px.ba a) Px.e0 0 ex0 [] [] X Y)) (left ts (a + 1)) = (o, m) := by
    have : Pp.behind (blk (plOf s ts)) 10 (X, Y) (left ts a).tail = (o, m) := hp
    rw [left_tail] at this
    exact this
  clear hp hhd hkd
  have e0 : ((Px.ba [108, 97, 98, 101, 108]).toList == [108, 111, 99, 107]) = false := by rw [show (Px.ba [108, 97, 98, 101, 108]).toList = [108, 97, 98, 101, 108] by rw [toList_data]; rfl]; decide
  have e1 : ((Px.ba [108, 97, 98, 101, 108]).toList == [117, 110, 108, 111, 99, 107]) = false := by rw [show (Px.ba [108, 97, 98, 101, 108]).toList = [108, 97, 98, 101, 108] by rw [toList_data]; rfl]; decide
  have e2 : ((Px.ba [108, 97, 98, 101, 108]).toList == [103, 111, 116, 111]) = false := by rw [show (Px.ba [108, 97, 98, 101, 108]).toList = [108, 97, 98, 101, 108] by rw [toList_data]; rfl]; decide
  have e3 : ((Px.ba [108, 97, 98, 101, 108]).toList == [108, 97, 98, 101, 108]) = true := by rw [show (Px.ba [108, 97, 98, 101, 108]).toList = [108, 97, 98, 101, 108] by rw [toList_data]; rfl]; decide
  have e4 : ((Px.ba [108, 97, 98, 101, 108]).toList == [115, 101, 110, 100]) = false := by rw [show (Px.ba [108, 97, 98, 101, 108]).toList = [108, 97, 98, 101, 108] by rw [toList_data]; rfl]; decide
  have e5 : ((Px.ba [108, 97, 98, 101, 108]).toList == [114, 101, 99, 118]) = false := by rw [show (Px.ba [108, 97, 98, 101, 108]).toList = [108, 97, 98, 101, 108] by rw [toList_data]; rfl]; decide
  have e6 : ((Px.ba [108, 97, 98, 101, 108]).toList == [112, 114, 105, 110, 116]) = false := by rw [show (Px.ba [108, 97, 98, 101, 108]).toList = [108, 97, 98, 101, 108] by rw [toList_data]; rfl]; decide
  have e7 : ((Px.ba [108, 97, 98, 101, 108]).toList == [105, 102]) = false := by rw [show (Px.ba [108, 97, 98, 101, 108]).toList = [108, 97, 98, 101, 108] by rw [toList_data]; rfl]; decide
  have e8 : ((Px.ba [108, 97, 98, 101, 108]).toList == [114, 101, 112, 101, 97, 116]) = false := by rw [show (Px.ba [108, 97, 98, 101, 108]).toList = [108, 97, 98, 101, 108] by rw [toList_data]; rfl]; decide
  generalize Px.ba [108, 97, 98, 101, 108] = TX at *
  have x0_W3 : W3.cell? ⟨B8, 0, none⟩ = some (.int .i64 (0)) := HXW3.out.cell 0 rfl
  have x1_W3 : W3.cell? ⟨B8, 1, none⟩ = some (.string (⟨#[]⟩)) := HXW3.out.cell 1 rfl
  have x2_W3 : W3.cell? ⟨B8, 2, none⟩ = some (.string (⟨#[]⟩)) := HXW3.out.cell 2 rfl
  have x3_W3 : W3.cell? ⟨B8, 3, none⟩ = some (.int .i64 (0)) := HXW3.out.cell 3 rfl
  have x4_W3 : W3.cell? ⟨B8, 4, none⟩ = some (.int .i64 (0)) := HXW3.out.cell 4 rfl
  have x5_W3 : W3.cell? ⟨B8, 5, none⟩ = some (.int .i64 (0)) := HXW3.out.cell 5 rfl
  have x6_W3 : W3.cell? ⟨B8, 6, none⟩ = some (.string (⟨#[]⟩)) := HXW3.out.cell 6 rfl
  have x7_W3 : W3.cell? ⟨B8, 7, none⟩ = some (.slice none 0 0) := HXW3.out.cell 7 rfl
  have x8_W3 : W3.cell? ⟨B8, 8, none⟩ = some (.slice none 0 0) := HXW3.out.cell 8 rfl
  have x9_W3 : W3.cell? ⟨B8, 9, none⟩ = some (.slice none 0 0) := HXW3.out.cell 9 rfl
  have x10_W3 : W3.cell? ⟨B8, 10, none⟩ = some (.complex .f64 X Y) := HXW3.out.cell 10 rfl
  have r0_W3 : W3.cell? ⟨w.heap.size, 0, none⟩ = some (.int .i64 (0)) := HZW3.out.cell 0 rfl
  have r1_W3 : W3.cell? ⟨w.heap.size, 1, none⟩ = some (.string (⟨#[]⟩)) := HZW3.out.cell 1 rfl
  have r2_W3 : W3.cell? ⟨w.heap.size, 2, none⟩ = some (.string (⟨#[]⟩)) := HZW3.out.cell 2 rfl
  have r3_W3 : W3.cell? ⟨w.heap.size, 3, none⟩ = some (.int .i64 (0)) := HZW3.out.cell 3 rfl
  have r4_W3 : W3.cell? ⟨w.heap.size, 4, none⟩ = some (.int .i64 (0)) := HZW3.out.cell 4 rfl
  have r5_W3 : W3.cell? ⟨w.heap.size, 5, none⟩ = some (.int .i64 (0)) := HZW3.out.cell 5 rfl
  have r6_W3 : W3.cell? ⟨w.heap.size, 6, none⟩ = some (.string (⟨#[]⟩)) := HZW3.out.cell 6 rfl
  have r7_W3 : W3.cell? ⟨w.heap.size, 7, none⟩ = some (.slice none 0 0) := HZW3.out.cell 7 rfl
  have r8_W3 : W3.cell? ⟨w.heap.size, 8, none⟩ = some (.slice none 0 0) := HZW3.out.cell 8 rfl
  have r9_W3 : W3.cell? ⟨w.heap.size, 9, none⟩ = some (.slice none 0 0) := HZW3.out.cell 9 rfl
  have r10_W3 : W3.cell? ⟨w.heap.size, 10, none⟩ = some (.complex .f64 0 0) := HZW3.out.cell 10 rfl
  have xf_W3 : ∀ j, W3.frozen? ⟨B8, j, none⟩ = false := HXW3.out.fz
  have rf_W3 : ∀ j, W3.frozen? ⟨w.heap.size, j, none⟩ = false := HZW3.out.fz
  have xl_W3 : B8 < W3.heap.size := HXW3.out.lt
  have rl_W3 : w.heap.size < W3.heap.size := HZW3.out.lt
  replace u1 : W3.cell? ⟨w.heap.size + 1, 1, none⟩ = some (.string TX) := HTW3.out.cell 1 rfl
  obtain ⟨Wc, hWc⟩ : ∃ W, ((W3).setCell ⟨B8, 0, none⟩ (.int .i64 2)).setCell ⟨B8, 0, none⟩ (.int .i64 10) = W := ⟨_, rfl⟩
  have HXWc : Hid (BoxS Wc B8 (⟨10, ⟨#[]⟩, ⟨#[]⟩, 0, 0, 0, ⟨#[]⟩, none, 0, 0, none, 0, 0, none, 0, 0, X, Y⟩ : Sv).cells) := by rw [← hWc]; exact ((((HXW3.out).setv 0 [.int .i64 2] (⟨2, ⟨#[]⟩, ⟨#[]⟩, 0, 0, 0, ⟨#[]⟩, none, 0, 0, none, 0, 0, none, 0, 0, X, Y⟩ : Sv).cells (by show 0 + 1 ≤ 11; decide) rfl)).setv 0 [.int .i64 10] (⟨10, ⟨#[]⟩, ⟨#[]⟩, 0, 0, 0, ⟨#[]⟩, none, 0, 0, none, 0, 0, none, 0, 0, X, Y⟩ : Sv).cells (by show 0 + 1 ≤ 11; decide) rfl)
  have HZWc : Hid (BoxS Wc w.heap.size (sv0 0 0).cells) := by rw [← hWc]; exact ((((HZW3.out).apart hrB 0 [.int .i64 2])).apart hrB 0 [.int .i64 10])
  have HBWc : Hid (But R w Wc) := by rw [← hWc]; exact ((((HBW3.out).sets (B := B8) (by omega) 0 [.int .i64 2])).sets (B := B8) (by omega) 0 [.int .i64 10])
  have HTWc : Hid (BoxS Wc (w.heap.size + 1) [.int .i64 ((1 : Nat) : Int), .string TX, .int .i64 (nn : Int), .int .i64 (aa : Int)]) := by rw [← hWc]; exact ((((HTW3.out).apart htB 0 [.int .i64 2])).apart htB 0 [.int .i64 10])
  have uWc : Wc.cell? ⟨w.heap.size + 1, 1, none⟩ = some (.string TX) := HTWc.out.cell 1 rfl
  have hqc : Rq Wc R g cap ts (a + 1) false bad := by rw [← hWc]; exact ((((HQW3.out).sets hBR hBg 0 [.int .i64 2])).sets hBR hBg 0 [.int .i64 10])
  cases hnm : isNmT (Px.hd (left ts (a + 1))) with
  | true =>
    have NM : Hid _ := rname_any hqc HA2.out (HOK.out.fit _ (List.getElem_mem HA2.out)) true (by rw [hnm]; rfl)
    have HNM : Hid (isNmT (Px.hd (left ts (a + 1))) = true) := hnm
    have HPO : Hid _ := hP
    clear hqc hnm hP
    go_wp2_with fail
    refine Calls.mono NM.out ?_
    rintro e w4 ⟨⟨v, rfl, hv⟩, hbn, hz⟩
    have HV : Hid _ := hv
    have HZ4 : Hid _ := hz
    clear x0_W3 x1_W3 x2_W3 x3_W3 x4_W3 x5_W3 x6_W3 x7_W3 x8_W3 x9_W3 x10_W3 r0_W3 r1_W3 r2_W3 r3_W3 r4_W3 r5_W3 r6_W3 r7_W3 r8_W3 r9_W3 r10_W3 xf_W3 rf_W3 xl_W3 rl_W3
    have HXw4 : Hid (BoxS w4 B8 (⟨10, ⟨#[]⟩, ⟨#[]⟩, 0, 0, 0, ⟨#[]⟩, none, 0, 0, none, 0, 0, none, 0, 0, X, Y⟩ : Sv).cells) := HXWc.out.but hbn hBR
    have HZw4 : Hid (BoxS w4 w.heap.size (sv0 0 0).cells) := HZWc.out.but hbn hrR
    have HBw4 : Hid (But R w w4) := HBWc.out.then hbn
    have HTw4 : Hid (BoxS w4 (w.heap.size + 1) [.int .i64 ((1 : Nat) : Int), .string TX, .int .i64 (nn : Int), .int .i64 (aa : Int)]) := HTWc.out.but hbn htR
    clear hbn
    clear hv hz
    have x0_w4 : w4.cell? ⟨B8, 0, none⟩ = some (.int .i64 (10)) := HXw4.out.cell 0 rfl
    have x1_w4 : w4.cell? ⟨B8, 1, none⟩ = some (.string (⟨#[]⟩)) := HXw4.out.cell 1 rfl
    have x2_w4 : w4.cell? ⟨B8, 2, none⟩ = some (.string (⟨#[]⟩)) := HXw4.out.cell 2 rfl
    have x3_w4 : w4.cell? ⟨B8, 3, none⟩ = some (.int .i64 (0)) := HXw4.out.cell 3 rfl
    have x4_w4 : w4.cell? ⟨B8, 4, none⟩ = some (.int .i64 (0)) := HXw4.out.cell 4 rfl
    have x5_w4 : w4.cell? ⟨B8, 5, none⟩ = some (.int .i64 (0)) := HXw4.out.cell 5 rfl
    have x6_w4 : w4.cell? ⟨B8, 6, none⟩ = some (.string (⟨#[]⟩)) := HXw4.out.cell 6 rfl
    have x7_w4 : w4.cell? ⟨B8, 7, none⟩ = some (.slice none 0 0) := HXw4.out.cell 7 rfl
    have x8_w4 : w4.cell? ⟨B8, 8, none⟩ = some (.slice none 0 0) := HXw4.out.cell 8 rfl
    have x9_w4 : w4.cell? ⟨B8, 9, none⟩ = some (.slice none 0 0) := HXw4.out.cell 9 rfl
    have x10_w4 : w4.cell? ⟨B8, 10, none⟩ = some (.complex .f64 X Y) := HXw4.out.cell 10 rfl
    have r0_w4 : w4.cell? ⟨w.heap.size, 0, none⟩ = some (.int .i64 (0)) := HZw4.out.cell 0 rfl
    have r1_w4 : w4.cell? ⟨w.heap.size, 1, none⟩ = some (.string (⟨#[]⟩)) := HZw4.out.cell 1 rfl
    have r2_w4 : w4.cell? ⟨w.heap.size, 2, none⟩ = some (.string (⟨#[]⟩)) := HZw4.out.cell 2 rfl
    have r3_w4 : w4.cell? ⟨w.heap.size, 3, none⟩ = some (.int .i64 (0)) := HZw4.out.cell 3 rfl
    have r4_w4 : w4.cell? ⟨w.heap.size, 4, none⟩ = some (.int .i64 (0)) := HZw4.out.cell 4 rfl
    have r5_w4 : w4.cell? ⟨w.heap.size, 5, none⟩ = some (.int .i64 (0)) := HZw4.out.cell 5 rfl
    have r6_w4 : w4.cell? ⟨w.heap.size, 6, none⟩ = some (.string (⟨#[]⟩)) := HZw4.out.cell 6 rfl
    have r7_w4 : w4.cell? ⟨w.heap.size, 7, none⟩ = some (.slice none 0 0) := HZw4.out.cell 7 rfl
    have r8_w4 : w4.cell? ⟨w.heap.size, 8, none⟩ = some (.slice none 0 0) := HZw4.out.cell 8 rfl
    have r9_w4 : w4.cell? ⟨w.heap.size, 9, none⟩ = some (.slice none 0 0) := HZw4.out.cell 9 rfl
    have r10_w4 : w4.cell? ⟨w.heap.size, 10, none⟩ = some (.complex .f64 0 0) := HZw4.out.cell 10 rfl
    have xf_w4 : ∀ j, w4.frozen? ⟨B8, j, none⟩ = false := HXw4.out.fz
    have rf_w4 : ∀ j, w4.frozen? ⟨w.heap.size, j, none⟩ = false := HZw4.out.fz
    have xl_w4 : B8 < w4.heap.size := HXw4.out.lt
    have rl_w4 : w.heap.size < w4.heap.size := HZw4.out.lt
    obtain ⟨Wd, hWd⟩ : ∃ W, (w4).setCell ⟨B8, 1, none⟩ (.string v) = W := ⟨_, rfl⟩
    have HXWd : Hid (BoxS Wd B8 (⟨10, v, ⟨#[]⟩, 0, 0, 0, ⟨#[]⟩, none, 0, 0, none, 0, 0, none, 0, 0, X, Y⟩ : Sv).cells) := by rw [← hWd]; exact ((HXw4.out).setv 1 [.string v] (⟨10, v, ⟨#[]⟩, 0, 0, 0, ⟨#[]⟩, none, 0, 0, none, 0, 0, none, 0, 0, X, Y⟩ : Sv).cells (by show 1 + 1 ≤ 11; decide) rfl)
    have HZWd : Hid (BoxS Wd w.heap.size (sv0 0 0).cells) := by rw [← hWd]; exact ((HZw4.out).apart hrB 1 [.string v])
    have HBWd : Hid (But R w Wd) := by rw [← hWd]; exact ((HBw4.out).sets (B := B8) (by omega) 1 [.string v])
    have HTWd : Hid (BoxS Wd (w.heap.size + 1) [.int .i64 ((1 : Nat) : Int), .string TX, .int .i64 (nn : Int), .int .i64 (aa : Int)]) := by rw [← hWd]; exact ((HTw4.out).apart htB 1 [.string v])
    have uWd : Wd.cell? ⟨w.heap.size + 1, 1, none⟩ = some (.string TX) := HTWd.out.cell 1 rfl
    have x0_Wd : Wd.cell? ⟨B8, 0, none⟩ = some (.int .i64 (10)) := HXWd.out.cell 0 rfl
    have x1_Wd : Wd.cell? ⟨B8, 1, none⟩ = some (.string (v)) := HXWd.out.cell 1 rfl
    have x2_Wd : Wd.cell? ⟨B8, 2, none⟩ = some (.string (⟨#[]⟩)) := HXWd.out.cell 2 rfl
    have x3_Wd : Wd.cell? ⟨B8, 3, none⟩ = some (.int .i64 (0)) := HXWd.out.cell 3 rfl
    have x4_Wd : Wd.cell? ⟨B8, 4, none⟩ = some (.int .i64 (0)) := HXWd.out.cell 4 rfl
    have x5_Wd : Wd.cell? ⟨B8, 5, none⟩ = some (.int .i64 (0)) := HXWd.out.cell 5 rfl
    have x6_Wd : Wd.cell? ⟨B8, 6, none⟩ = some (.string (⟨#[]⟩)) := HXWd.out.cell 6 rfl
    have x7_Wd : Wd.cell? ⟨B8, 7, none⟩ = some (.slice none 0 0) := HXWd.out.cell 7 rfl
    have x8_Wd : Wd.cell? ⟨B8, 8, none⟩ = some (.slice none 0 0) := HXWd.out.cell 8 rfl
    have x9_Wd : Wd.cell? ⟨B8, 9, none⟩ = some (.slice none 0 0) := HXWd.out.cell 9 rfl
    have x10_Wd : Wd.cell? ⟨B8, 10, none⟩ = some (.complex .f64 X Y) := HXWd.out.cell 10 rfl
    have r0_Wd : Wd.cell? ⟨w.heap.size, 0, none⟩ = some (.int .i64 (0)) := HZWd.out.cell 0 rfl
    have r1_Wd : Wd.cell? ⟨w.heap.size, 1, none⟩ = some (.string (⟨#[]⟩)) := HZWd.out.cell 1 rfl
    have r2_Wd : Wd.cell? ⟨w.heap.size, 2, none⟩ = some (.string (⟨#[]⟩)) := HZWd.out.cell 2 rfl
    have r3_Wd : Wd.cell? ⟨w.heap.size, 3, none⟩ = some (.int .i64 (0)) := HZWd.out.cell 3 rfl
    have r4_Wd : Wd.cell? ⟨w.heap.size, 4, none⟩ = some (.int .i64 (0)) := HZWd.out.cell 4 rfl
    have r5_Wd : Wd.cell? ⟨w.heap.size, 5, none⟩ = some (.int .i64 (0)) := HZWd.out.cell 5 rfl
    have r6_Wd : Wd.cell? ⟨w.heap.size, 6, none⟩ = some (.string (⟨#[]⟩)) := HZWd.out.cell 6 rfl
    have r7_Wd : Wd.cell? ⟨w.heap.size, 7, none⟩ = some (.slice none 0 0) := HZWd.out.cell 7 rfl
    have r8_Wd : Wd.cell? ⟨w.heap.size, 8, none⟩ = some (.slice none 0 0) := HZWd.out.cell 8 rfl
    have r9_Wd : Wd.cell? ⟨w.heap.size, 9, none⟩ = some (.slice none 0 0) := HZWd.out.cell 9 rfl
    have r10_Wd : Wd.cell? ⟨w.heap.size, 10, none⟩ = some (.complex .f64 0 0) := HZWd.out.cell 10 rfl
    have xf_Wd : ∀ j, Wd.frozen? ⟨B8, j, none⟩ = false := HXWd.out.fz
    have rf_Wd : ∀ j, Wd.frozen? ⟨w.heap.size, j, none⟩ = false := HZWd.out.fz
    have xl_Wd : B8 < Wd.heap.size := HXWd.out.lt
    have rl_Wd : w.heap.size < Wd.heap.size := HZWd.out.lt
    go_wp2_with fail
    obtain ⟨hO1, hO2⟩ := name_yes HNM.out HPO.out
    subst hO1 hO2
    have hq : Rq Wd R g cap ts (a + 1 + 1) false bad := by rw [← hWd]; exact (Rz_yes HZ4.out).sets hBR hBg 1 [.string v]
    have hv := HV.out trivial
    refine reds_end (⟨10, v, ⟨#[]⟩, 0, 0, 0, ⟨#[]⟩, none, 0, 0, none, 0, 0, none, 0, 0, X, Y⟩ : Sv) rfl HZWd.out HBWd.out hRw HGW.out (fun x hx => ?_) (fun hx => by cases hx)
    cases hx
    refine ⟨⟨rfl, hv, rfl, rfl, rfl, rfl, rfl, rfl, rfl, ExsD.nil _ _, StsD.nil' _ _, StsD.nil' _ _⟩, ?_⟩
    rw [left_tail, left_len, show ts.length - (ts.length - (a + 1 + 1)) = a + 1 + 1 by have := HA2.out; omega]
    exact hq
  | false =>
    have NM : Hid _ := rname_any hqc HA2.out (HOK.out.fit _ (List.getElem_mem HA2.out)) false (by rw [hnm]; rfl)
    have HNM : Hid (isNmT (Px.hd (left ts (a + 1))) = false) := hnm
    have HPO : Hid _ := hP
    clear hqc hnm hP
    go_wp2_with fail
    refine Calls.mono NM.out ?_
    rintro e w4 ⟨⟨v, rfl, hv⟩, hbn, hz⟩
    have HV : Hid _ := hv
    have HZ4 : Hid _ := hz
    clear x0_W3 x1_W3 x2_W3 x3_W3 x4_W3 x5_W3 x6_W3 x7_W3 x8_W3 x9_W3 x10_W3 r0_W3 r1_W3 r2_W3 r3_W3 r4_W3 r5_W3 r6_W3 r7_W3 r8_W3 r9_W3 r10_W3 xf_W3 rf_W3 xl_W3 rl_W3
    have HXw4 : Hid (BoxS w4 B8 (⟨10, ⟨#[]⟩, ⟨#[]⟩, 0, 0, 0, ⟨#[]⟩, none, 0, 0, none, 0, 0, none, 0, 0, X, Y⟩ : Sv).cells) := HXWc.out.but hbn hBR
    have HZw4 : Hid (BoxS w4 w.heap.size (sv0 0 0).cells) := HZWc.out.but hbn hrR
    have HBw4 : Hid (But R w w4) := HBWc.out.then hbn
    have HTw4 : Hid (BoxS w4 (w.heap.size + 1) [.int .i64 ((1 : Nat) : Int), .string TX, .int .i64 (nn : Int), .int .i64 (aa : Int)]) := HTWc.out.but hbn htR
    clear hbn
    clear hv hz
    have x0_w4 : w4.cell? ⟨B8, 0, none⟩ = some (.int .i64 (10)) := HXw4.out.cell 0 rfl
    have x1_w4 : w4.cell? ⟨B8, 1, none⟩ = some (.string (⟨#[]⟩)) := HXw4.out.cell 1 rfl
    have x2_w4 : w4.cell? ⟨B8, 2, none⟩ = some (.string (⟨#[]⟩)) := HXw4.out.cell 2 rfl
    have x3_w4 : w4.cell? ⟨B8, 3, none⟩ = some (.int .i64 (0)) := HXw4.out.cell 3 rfl
    have x4_w4 : w4.cell? ⟨B8, 4, none⟩ = some (.int .i64 (0)) := HXw4.out.cell 4 rfl
    have x5_w4 : w4.cell? ⟨B8, 5, none⟩ = some (.int .i64 (0)) := HXw4.out.cell 5 rfl
    have x6_w4 : w4.cell? ⟨B8, 6, none⟩ = some (.string (⟨#[]⟩)) := HXw4.out.cell 6 rfl
    have x7_w4 : w4.cell? ⟨B8, 7, none⟩ = some (.slice none 0 0) := HXw4.out.cell 7 rfl
    have x8_w4 : w4.cell? ⟨B8, 8, none⟩ = some (.slice none 0 0) := HXw4.out.cell 8 rfl
    have x9_w4 : w4.cell? ⟨B8, 9, none⟩ = some (.slice none 0 0) := HXw4.out.cell 9 rfl
    have x10_w4 : w4.cell? ⟨B8, 10, none⟩ = some (.complex .f64 X Y) := HXw4.out.cell 10 rfl
    have r0_w4 : w4.cell? ⟨w.heap.size, 0, none⟩ = some (.int .i64 (0)) := HZw4.out.cell 0 rfl
    have r1_w4 : w4.cell? ⟨w.heap.size, 1, none⟩ = some (.string (⟨#[]⟩)) := HZw4.out.cell 1 rfl
    have r2_w4 : w4.cell? ⟨w.heap.size, 2, none⟩ = some (.string (⟨#[]⟩)) := HZw4.out.cell 2 rfl
    have r3_w4 : w4.cell? ⟨w.heap.size, 3, none⟩ = some (.int .i64 (0)) := HZw4.out.cell 3 rfl
    have r4_w4 : w4.cell? ⟨w.heap.size, 4, none⟩ = some (.int .i64 (0)) := HZw4.out.cell 4 rfl
    have r5_w4 : w4.cell? ⟨w.heap.size, 5, none⟩ = some (.int .i64 (0)) := HZw4.out.cell 5 rfl
    have r6_w4 : w4.cell? ⟨w.heap.size, 6, none⟩ = some (.string (⟨#[]⟩)) := HZw4.out.cell 6 rfl
    have r7_w4 : w4.cell? ⟨w.heap.size, 7, none⟩ = some (.slice none 0 0) := HZw4.out.cell 7 rfl
    have r8_w4 : w4.cell? ⟨w.heap.size, 8, none⟩ = some (.slice none 0 0) := HZw4.out.cell 8 rfl
    have r9_w4 : w4.cell? ⟨w.heap.size, 9, none⟩ = some (.slice none 0 0) := HZw4.out.cell 9 rfl
    have r10_w4 : w4.cell? ⟨w.heap.size, 10, none⟩ = some (.complex .f64 0 0) := HZw4.out.cell 10 rfl
    have xf_w4 : ∀ j, w4.frozen? ⟨B8, j, none⟩ = false := HXw4.out.fz
    have rf_w4 : ∀ j, w4.frozen? ⟨w.heap.size, j, none⟩ = false := HZw4.out.fz
    have xl_w4 : B8 < w4.heap.size := HXw4.out.lt
    have rl_w4 : w.heap.size < w4.heap.size := HZw4.out.lt
    obtain ⟨Wd, hWd⟩ : ∃ W, (w4).setCell ⟨B8, 1, none⟩ (.string v) = W := ⟨_, rfl⟩
    have HXWd : Hid (BoxS Wd B8 (⟨10, v, ⟨#[]⟩, 0, 0, 0, ⟨#[]⟩, none, 0, 0, none, 0, 0, none, 0, 0, X, Y⟩ : Sv).cells) := by rw [← hWd]; exact ((HXw4.out).setv 1 [.string v] (⟨10, v, ⟨#[]⟩, 0, 0, 0, ⟨#[]⟩, none, 0, 0, none, 0, 0, none, 0, 0, X, Y⟩ : Sv).cells (by show 1 + 1 ≤ 11; decide) rfl)
    have HZWd : Hid (BoxS Wd w.heap.size (sv0 0 0).cells) := by rw [← hWd]; exact ((HZw4.out).apart hrB 1 [.string v])
    have HBWd : Hid (But R w Wd) := by rw [← hWd]; exact ((HBw4.out).sets (B := B8) (by omega) 1 [.string v])
    have HTWd : Hid (BoxS Wd (w.heap.size + 1) [.int .i64 ((1 : Nat) : Int), .string TX, .int .i64 (nn : Int), .int .i64 (aa : Int)]) := by rw [← hWd]; exact ((HTw4.out).apart htB 1 [.string v])
    have uWd : Wd.cell? ⟨w.heap.size + 1, 1, none⟩ = some (.string TX) := HTWd.out.cell 1 rfl
    have x0_Wd : Wd.cell? ⟨B8, 0, none⟩ = some (.int .i64 (10)) := HXWd.out.cell 0 rfl
    have x1_Wd : Wd.cell? ⟨B8, 1, none⟩ = some (.string (v)) := HXWd.out.cell 1 rfl
    have x2_Wd : Wd.cell? ⟨B8, 2, none⟩ = some (.string (⟨#[]⟩)) := HXWd.out.cell 2 rfl
    have x3_Wd : Wd.cell? ⟨B8, 3, none⟩ = some (.int .i64 (0)) := HXWd.out.cell 3 rfl
    have x4_Wd : Wd.cell? ⟨B8, 4, none⟩ = some (.int .i64 (0)) := HXWd.out.cell 4 rfl
    have x5_Wd : Wd.cell? ⟨B8, 5, none⟩ = some (.int .i64 (0)) := HXWd.out.cell 5 rfl
    have x6_Wd : Wd.cell? ⟨B8, 6, none⟩ = some (.string (⟨#[]⟩)) := HXWd.out.cell 6 rfl
    have x7_Wd : Wd.cell? ⟨B8, 7, none⟩ = some (.slice none 0 0) := HXWd.out.cell 7 rfl
    have x8_Wd : Wd.cell? ⟨B8, 8, none⟩ = some (.slice none 0 0) := HXWd.out.cell 8 rfl
    have x9_Wd : Wd.cell? ⟨B8, 9, none⟩ = some (.slice none 0 0) := HXWd.out.cell 9 rfl
    have x10_Wd : Wd.cell? ⟨B8, 10, none⟩ = some (.complex .f64 X Y) := HXWd.out.cell 10 rfl
    have r0_Wd : Wd.cell? ⟨w.heap.size, 0, none⟩ = some (.int .i64 (0)) := HZWd.out.cell 0 rfl
    have r1_Wd : Wd.cell? ⟨w.heap.size, 1, none⟩ = some (.string (⟨#[]⟩)) := HZWd.out.cell 1 rfl
    have r2_Wd : Wd.cell? ⟨w.heap.size, 2, none⟩ = some (.string (⟨#[]⟩)) := HZWd.out.cell 2 rfl
    have r3_Wd : Wd.cell? ⟨w.heap.size, 3, none⟩ = some (.int .i64 (0)) := HZWd.out.cell 3 rfl
    have r4_Wd : Wd.cell? ⟨w.heap.size, 4, none⟩ = some (.int .i64 (0)) := HZWd.out.cell 4 rfl
    have r5_Wd : Wd.cell? ⟨w.heap.size, 5, none⟩ = some (.int .i64 (0)) := HZWd.out.cell 5 rfl
    have r6_Wd : Wd.cell? ⟨w.heap.size, 6, none⟩ = some (.string (⟨#[]⟩)) := HZWd.out.cell 6 rfl
    have r7_Wd : Wd.cell? ⟨w.heap.size, 7, none⟩ = some (.slice none 0 0) := HZWd.out.cell 7 rfl
    have r8_Wd : Wd.cell? ⟨w.heap.size, 8, none⟩ = some (.slice none 0 0) := HZWd.out.cell 8 rfl
    have r9_Wd : Wd.cell? ⟨w.heap.size, 9, none⟩ = some (.slice none 0 0) := HZWd.out.cell 9 rfl
    have r10_Wd : Wd.cell? ⟨w.heap.size, 10, none⟩ = some (.complex .f64 0 0) := HZWd.out.cell 10 rfl
    have xf_Wd : ∀ j, Wd.frozen? ⟨B8, j, none⟩ = false := HXWd.out.fz
    have rf_Wd : ∀ j, Wd.frozen? ⟨w.heap.size, j, none⟩ = false := HZWd.out.fz
    have xl_Wd : B8 < Wd.heap.size := HXWd.out.lt
    have rl_Wd : w.heap.size < Wd.heap.size := HZWd.out.lt
    go_wp2_with fail
    obtain ⟨hO1, hO2⟩ := name_no (nm_no HOK.out HA2.out HNM.out) HPO.out
    subst hO1 hO2
    have hq : Rq Wd R g cap ts (a + 1) true (a + 1) := by rw [← hWd]; exact (Rz_no HZ4.out).sets hBR hBg 1 [.string v]
    refine reds_end (⟨10, v, ⟨#[]⟩, 0, 0, 0, ⟨#[]⟩, none, 0, 0, none, 0, 0, none, 0, 0, X, Y⟩ : Sv) rfl HZWd.out HBWd.out hRw HGW.out ?hsome (fun _ => ⟨a + 1, HA2.out, ?_⟩)
    case hsome => exact fun x hx => by cases hx
    rw [left_len, show ts.length - (ts.length - (a + 1)) = a + 1 by have := HA2.out; omega]
    exact hq
end Go.Proofs.Ytnfkjmafhaecgaa
