/- What writeBinary and writeBare answer; then all writers, whatever the expression. -/
import Derived.Test.YtbjdnniklcmcbaaDoorWt
namespace Go.Proofs.YtbjdnniklcmcbaaDoor
open Go.RowKit
attribute [local go_sem] run_store_complex

set_option maxRecDepth 100000 in
set_option maxHeartbeats 2000000 in
theorem binary_of (k n : Int) (s : ByteArray) (y z : Ex) (hk : Px.sgn k ≠ []) (hk1 : k ≠ 1) (hk2 : k ≠ 2) (HY : PW y) (HZ : PW z) (acc : List UInt8) (B : Nat) (w : World) (v ev : Value) (ht : Txt w B v acc) (hx : ExsIn w 0 B [y, z] ev) (hB : B ≤ w.heap.size) (hf : (Ex.mk k n s [y, z]).fit) (hsz : acc.length + 24 * (Ex.mk k n s [y, z]).size ≤ 1000000000002) (hP : Pow B w) :
    Calls Tryd.prog 37 #[v, .agg #[.int .i64 k, .int .i64 n, .string s, ev]] w fun e w' => Wrote B w (Px.wb (.mk k n s [y, z]) acc) e w' := by
  obtain ⟨a, cap, rfl⟩ := ht.form
  obtain ⟨xa, xn, xq, rfl⟩ := hx.form
  have hopen := hx.open
  obtain ⟨xa', xq', he, hl1, hl2, hl3⟩ := hopen
  cases he
  obtain ⟨b, o, ya, yn, yq, rfl, ⟨_, hbB⟩, hfz, y0, y1, y2, y3, yT⟩ := hx.itemD 0 (by simp)
  obtain ⟨b', o', za, zn, zq, he, -, -, z0, z1, z2, z3, zT⟩ := hx.itemD 1 (by simp)
  simp only [Option.some.injEq, Addr.mk.injEq, and_true] at he
  obtain ⟨rfl, rfl⟩ := he
  have hfy := Ex.fits_mem ((Ex.fit_eq _).1 hf).2 y (by simp [Ex.of])
  have hfz' := Ex.fits_mem ((Ex.fit_eq _).1 hf).2 z (by simp [Ex.of])
  have hs1 : (Ex.mk k n s [y, z]).size = 1 + (y.size + z.size) := by rw [Ex.size_eq]; simp [Ex.of, Ex.sizes]
  rw [hs1] at hsz
  obtain ⟨r, hr⟩ : ∃ r, Px.rnk k = r := ⟨_, rfl⟩
  have hr4 : 1 ≤ r ∧ r ≤ 4 := by rw [← hr]; unfold Px.rnk; repeat' split
                                 all_goals decide
  have RK : Hid (∀ W, Calls Tryd.prog 23 #[.int .i64 k] W fun e w' => e = .returned (.int .i64 (r : Nat)) ∧ w' = W) := fun W => by rw [← hr]; exact rank_any _ W
  have SG : Hid (∀ W, Calls Tryd.prog 36 #[.int .i64 k] W fun e w' => e = .returned (.string (Px.ba (Px.sgn k))) ∧ w' = W) := fun W => sign_any _ W
  obtain ⟨acc1, h1⟩ : ∃ t, Px.wr y acc (max r 2) = t := ⟨_, rfl⟩
  obtain ⟨acc2, h2⟩ : ∃ t, acc1 ++ [32] = t := ⟨_, rfl⟩
  obtain ⟨acc3, h3⟩ : ∃ t, acc2 ++ (Px.ba (Px.sgn k)).data.toList = t := ⟨_, rfl⟩
  obtain ⟨acc4, h4⟩ : ∃ t, acc3 ++ [32] = t := ⟨_, rfl⟩
  obtain ⟨acc5, h5⟩ : ∃ t, Px.wr z acc4 (r + 1) = t := ⟨_, rfl⟩
  have HE : Hid (Px.wb (.mk k n s [y, z]) acc = acc5) := by
    show _ = _
    rw [Px.wb_two k n s y z acc hk hk1 hk2, hr, h1, h2]
    have : Px.sgn k = (Px.ba (Px.sgn k)).data.toList := by simp [Px.ba]
    rw [this, h3, h4, h5]
  have b1 := Px.wr_len y hfy acc (max r 2)
  rw [h1] at b1
  have b2 : acc2.length = acc1.length + 1 := by rw [← h2]; simp
  have b3 : acc3.length = acc2.length + (Px.ba (Px.sgn k)).size := by rw [← h3]; simp
  have b3' : (Px.ba (Px.sgn k)).size ≤ 2 := by have := Px.sgn_len k; simpa [Px.ba, ByteArray.size] using this
  have b4 : acc4.length = acc3.length + 1 := by rw [← h4]; simp
  have hpy := Ex.size_pos y
  have hpz := Ex.size_pos z
  have CY : Hid (∀ W, Wk B w W → Txt W B (.slice a acc.length cap) acc → Calls Tryd.prog 17 #[.slice a acc.length cap, .agg #[.int .i64 y.kind, .int .i64 y.n, .string y.name, .slice ya yn yq], .int .i64 ((max r 2 : Nat) : Int)] W fun e w' => Wrote B W acc1 e w') := fun W hW hT => by
    rw [← h1]
    exact HY acc (max r 2) B W _ _ (by omega) hT (tree_bel yT hW.bel) (Nat.le_trans hB hW.bel.size) hfy (by omega) (hP.on hW.bel)
  have CZ : Hid (∀ W a4 cap4, Wk B w W → Txt W B (.slice a4 acc4.length cap4) acc4 → Calls Tryd.prog 17 #[.slice a4 acc4.length cap4, .agg #[.int .i64 z.kind, .int .i64 z.n, .string z.name, .slice za zn zq], .int .i64 ((r + 1 : Nat) : Int)] W fun e w' => Wrote B W acc5 e w') := fun W a4 cap4 hW hT => by
    rw [← h5]
    exact HZ acc4 (r + 1) B W _ _ (by omega) hT (tree_bel zT hW.bel) (Nat.le_trans hB hW.bel.size) hfz' (by omega) (hP.on hW.bel)
  have CC : Hid (∀ W, Wk B w W → (W.cell? ⟨b, o, none⟩ = some (.int .i64 y.kind) ∧ W.cell? ⟨b, o + 1, none⟩ = some (.int .i64 y.n) ∧ W.cell? ⟨b, o + 2, none⟩ = some (.string y.name) ∧ W.cell? ⟨b, o + 3, none⟩ = some (.slice ya yn yq)) ∧
      (W.cell? ⟨b, o + 4, none⟩ = some (.int .i64 z.kind) ∧ W.cell? ⟨b, o + 4 + 1, none⟩ = some (.int .i64 z.n) ∧ W.cell? ⟨b, o + 4 + 2, none⟩ = some (.string z.name) ∧ W.cell? ⟨b, o + 4 + 3, none⟩ = some (.slice za zn zq)) ∧ b < W.heap.size) := fun W hW => by
    have c : ∀ j u, w.cell? ⟨b, j, none⟩ = some u → W.cell? ⟨b, j, none⟩ = some u := fun j u hu => (hW.bel.cell (p := ⟨b, j, none⟩) hbB).trans hu
    exact ⟨⟨c _ _ y0, c _ _ y1, c _ _ y2, c _ _ y3⟩, ⟨c _ _ z0, c _ _ z1, c _ _ z2, c _ _ z3⟩, by have := hW.bel.size; omega⟩
  have HT : Hid (Txt w B (.slice a acc.length cap) acc) := ht
  have H2 : Hid (acc1 ++ [32] = acc2) := h2
  have H3 : Hid (acc2 ++ (Px.ba (Px.sgn k)).data.toList = acc3) := h3
  have H4 : Hid (acc3 ++ [32] = acc4) := h4
  have HL : Hid (acc1.length ≤ 1000000000100 ∧ acc2.length + (Px.ba (Px.sgn k)).size ≤ 1000000000100 ∧ acc3.length ≤ 1000000000100) := ⟨by omega, by omega, by omega⟩
  have K0 : Hid (Kept w (w.alloc (.cells #[.int .i64 k, .int .i64 n, .string s, .slice (some ⟨b, o, none⟩) 2 xq] 25))) := (Kept.refl _).al _
  have HB0 : Hid ((w.alloc (.cells #[.int .i64 k, .int .i64 n, .string s, .slice (some ⟨b, o, none⟩) 2 xq] 25)).heap[w.heap.size]? = some (.cells #[.int .i64 k, .int .i64 n, .string s, .slice (some ⟨b, o, none⟩) 2 xq] 25)) := Bx.heap ..
  obtain ⟨⟨y0, y1, y2, y3⟩, -, hbw⟩ := CC.out w (Wk.refl _ _)
  have hmx : max (r : Int) 2 = ((max r 2 : Nat) : Int) := by omega
  clear ht hx h1 h2 h3 h4 h5 HY HZ yT zT hP hf hfy hfz' hs1 hr b1 b2 b3 b3' b4 z0 z1 z2 z3 hfz hsz hl1 hl2 hl3
  generalize Px.ba (Px.sgn k) = SS at *
  go_enter Tryd.func37, Tryd.ntmps37
  go_wp2_with fail
  refine (RK.out _).mono ?_
  rintro e w1 ⟨rfl, hw1⟩
  subst hw1
  go_wp2_with fail
  refine (CY.out _ (Wk.of K0.out hB) (HT.out.kept K0.out)).mono ?_
  rintro e w1 ⟨a1, cap1, rfl, t1, k1⟩
  have HK1 : Hid (Wk B w w1) := (Wk.of K0.out hB).then k1
  have HT1 : Hid (Txt w1 B (.slice a1 acc1.length cap1) acc1) := t1
  have HB1 : Hid (w1.heap[w.heap.size]? = some (.cells #[.int .i64 k, .int .i64 n, .string s, .slice (some ⟨b, o, none⟩) 2 xq] 25)) := k1.box HB0.out
  have hz1 : B ≤ w1.heap.size := Nat.le_trans hB HK1.out.bel.size
  clear t1 k1 y0 y1 y2 y3
  go_wp2_with (at_builtin; refine wp_app (by rfl) _ _ (by rfl) B (.slice a1 acc1.length cap1) acc1 acc2 32 H2.out (by rfl) ?c0 ⟨_, 0, none⟩ (by rfl) ?c1 HL.out.1 ?c3 ?_)
  case c0 => exact HT1.out.kept ((Kept.refl _).al _)
  case c1 => simp
  case c3 => simp; omega
  intro a2 cap2 w2 t2 k2
  have HK2 : Hid (Wk B w w2) := (HK1.out.then (Wk.of ((Kept.refl _).al _) hz1)).then k2
  have HT2 : Hid (Txt w2 B (.slice a2 acc2.length cap2) acc2) := t2
  have HB2 : Hid (w2.heap[w.heap.size]? = some (.cells #[.int .i64 k, .int .i64 n, .string s, .slice (some ⟨b, o, none⟩) 2 xq] 25)) := k2.box ((((Kept.refl w1).al _).block _ (Array.getElem?_eq_some_iff.1 HB1.out).1).trans HB1.out)
  have hz2 : B ≤ w2.heap.size := Nat.le_trans hB HK2.out.bel.size
  obtain ⟨p0, p1, p2, p3, pf⟩ := bx_of HB2.out
  clear t2 k2
  go_wp2_with fail
  refine (SG.out _).mono ?_
  rintro e w1' ⟨rfl, hw1'⟩
  subst hw1'
  go_wp2_with (at_builtin; refine wp_apps (by rfl) _ _ (by rfl) B (.slice a2 acc2.length cap2) acc2 acc3 SS H3.out (by rfl) HT2.out (by rfl) HL.out.2.1 hz2 ?_)
  intro a3 cap3 w3 t3 k3
  have HK3 : Hid (Wk B w w3) := HK2.out.then k3
  have HT3 : Hid (Txt w3 B (.slice a3 acc3.length cap3) acc3) := t3
  have HB3 : Hid (w3.heap[w.heap.size]? = some (.cells #[.int .i64 k, .int .i64 n, .string s, .slice (some ⟨b, o, none⟩) 2 xq] 25)) := k3.box HB2.out
  have hz3 : B ≤ w3.heap.size := Nat.le_trans hB HK3.out.bel.size
  clear t3 k3 p0 p1 p2 p3 pf
  go_wp2_with (at_builtin; refine wp_app (by rfl) _ _ (by rfl) B (.slice a3 acc3.length cap3) acc3 acc4 32 H4.out (by rfl) ?d0 ⟨_, 0, none⟩ (by rfl) ?d1 HL.out.2.2 ?d3 ?_)
  case d0 => exact HT3.out.kept ((Kept.refl _).al _)
  case d1 => simp
  case d3 => simp; omega
  intro a4 cap4 w4 t4 k4
  have HK4 : Hid (Wk B w w4) := (HK3.out.then (Wk.of ((Kept.refl _).al _) hz3)).then k4
  have HT4 : Hid (Txt w4 B (.slice a4 acc4.length cap4) acc4) := t4
  have HB4 : Hid (w4.heap[w.heap.size]? = some (.cells #[.int .i64 k, .int .i64 n, .string s, .slice (some ⟨b, o, none⟩) 2 xq] 25)) := k4.box ((((Kept.refl w3).al _).block _ (Array.getElem?_eq_some_iff.1 HB3.out).1).trans HB3.out)
  obtain ⟨p0, p1, p2, p3, pf⟩ := bx_of HB4.out
  obtain ⟨-, ⟨z0, z1, z2, z3⟩, hbw4⟩ := CC.out w4 HK4.out
  have hw4 : w.heap.size < w4.heap.size := block_lt_of_cell p0
  clear t4 k4
  go_wp2_with fail
  refine (CZ.out _ _ _ HK4.out HT4.out).mono ?_
  rintro e w5 ⟨a5, cap5, rfl, t5, k5⟩
  have HW : Hid (Txt w5 B (.slice a5 acc5.length cap5) acc5 ∧ Wk B w w5) := ⟨t5, HK4.out.then k5⟩
  clear t5 k5
  go_wp2_with fail
  go_ret
  rw [HE.out]
  exact ⟨a5, cap5, rfl, HW.out.1, HW.out.2⟩
#print axioms binary_of

/-- One byte more, at a step of a region that draws its order. -/
theorem step_app {w : World} {ops : Array Oper} {o : Oper} {ac : Act} {K : Act → World → Prop} {Q : Exit → Act → World → Prop} {E : Prop} (hgd : o.guard = none) (s x : Operand) (ho : o.op = .call { callee := .builtin .append, args := #[s, x], argTypes := #[47, 47] })
    (B : Nat) (v : Value) (acc acc' : List UInt8) (c : UInt8) (hacc : acc ++ [c] = acc') (hs : ac.eval s = v) (ht : Txt w B v acc) (ad : Addr) (hx : ac.eval x = .slice (some ad) 1 1) (hc : w.cell? ad = some (.int .u8 (c.toNat : Int))) (hl : acc.length ≤ 1000000000100) (hB : B ≤ w.heap.size)
    (h : ∀ a' cap w', Txt w' B (.slice a' acc'.length cap) acc' → Wk B w w' → K (ac.put o.dst (.slice a' acc'.length cap)) w') : if Region.wanted o (yielded ops ac.tmps) = true then Oper.wp Tryd.prog o ac w K Q else E := by
  have hw : Region.wanted o (yielded ops ac.tmps) = true := by simp [Region.wanted, hgd]
  rw [if_pos hw]
  obtain ⟨i, h1, h2, h3, h4⟩ := u8_info
  subst hacc
  refine wp_append_own w s x _ ho B 5 i (.int .u8 0) 1 1 Tryd.underlying47 h1 h2 h3 h4 rfl (by decide) v acc.length (Lib.byteCells acc) hs ht ad 1 1 [.int .u8 (c.toNat : Int)] hx rfl ?_ ?_ ?_ ?_ hB ?_
  · intro j u hu
    match j, hu with
    | 0, hu => cases hu; exact hc
  · intro u hu; simp at hu; subst hu; rfl
  · unfold maxLen; omega
  · omega
  · intro v' w' ho' hg _
    have ht' : Txt w' B v' (acc ++ [c]) := by
      unfold Txt
      rw [← byteCells_append, List.length_append]
      exact ho'
    obtain ⟨a', cap, rfl⟩ := ht'.form
    exact h a' cap w' ht' (Wk.grown ht hB hg)

set_option maxRecDepth 100000 in
set_option maxHeartbeats 2000000 in
theorem bare_of (x : Ex) (H : ∀ y ∈ x.of, PW y) : PB x := by
  intro acc B w v ev ht hx hB hf hsz hP
  obtain ⟨k, n, s, l⟩ := x
  have hx : ExsIn w 0 B l ev := hx
  have H : ∀ y ∈ l, PW y := H
  obtain ⟨a, cap, rfl⟩ := ht.form
  have hopen := hx.open
  obtain ⟨xa, xq, rfl, hl1, hl2, hl3⟩ := hopen
  show Calls Tryd.prog 24 #[.slice a acc.length cap, .agg #[.int .i64 k, .int .i64 n, .string s, .slice xa l.length xq]] w _
  obtain ⟨⟨hf0, hf1, hf2⟩, hf3⟩ := (Ex.fit_eq _).1 hf
  have hf0 : -9223372036854775808 ≤ n := hf0
  have hf1 : n ≤ 9223372036854775807 := hf1
  have hf2 : s.size ≤ 12 := hf2
  have hf3 : Ex.fits l := hf3
  have HT : Hid (Txt w B (.slice a acc.length cap) acc) := ht
  have hs1 : (Ex.mk k n s l).size = 1 + Ex.sizes l := by rw [Ex.size_eq]; rfl
  have K0 : Hid (Kept w (w.alloc (.cells #[.int .i64 k, .int .i64 n, .string s, .slice xa l.length xq] 25))) := (Kept.refl _).al _
  have HPW : Hid (Pow B w) := hP
  by_cases c1 : k = 1
  · subst c1
    have HE : Hid (Px.wb (.mk 1 n s l) acc = acc ++ Lib.itoa n) := Px.wb_num ..
    have HC : Hid (∀ W, Wk B w W → Txt W B (.slice a acc.length cap) acc → Calls Tryd.prog 35 #[.slice a acc.length cap, .int .i64 n, .int .i64 10] W fun e w' => Wrote B W (acc ++ Lib.itoa n) e w') := fun W hW hT => by
      refine (Tryd.strconv_AppendInt_10 B acc.length n hf0 hf1 _ _ W hT (Nat.le_trans hB hW.bel.size) (by omega) (HPW.out.on hW.bel)).mono ?_
      rintro e w' ⟨v', rfl, ho, hb, hk⟩
      have ht' : Txt w' B v' (acc ++ Lib.itoa n) := by
        unfold Txt; rw [← byteCells_append, List.length_append]; exact ho
      obtain ⟨a', cap', rfl⟩ := ht'.form
      exact ⟨a', cap', rfl, ht', hb, hk⟩
    clear ht hx H hf hf3 hP hsz hs1
    obtain ⟨acc1, h1⟩ : ∃ t, acc ++ Lib.itoa n = t := ⟨_, rfl⟩
    rw [h1] at HE HC
    clear h1
    go_enter Tryd.func24, Tryd.ntmps24
    go_wp2_with fail
    refine (HC.out _ (Wk.of K0.out hB) (HT.out.kept K0.out)).mono ?_
    rintro e w1 ⟨a1, cap1, rfl, t1, k1⟩
    have HW : Hid (Txt w1 B (.slice a1 acc1.length cap1) acc1 ∧ Wk B w w1) := ⟨t1, (Wk.of K0.out hB).then k1⟩
    clear t1 k1
    go_wp2_with fail
    go_ret
    rw [HE.out]
    exact ⟨a1, cap1, rfl, HW.out.1, HW.out.2⟩
  have g1 : (k == 1) = false := ne_int c1
  by_cases c2 : k = 2
  · subst c2
    have HE : Hid (Px.wb (.mk 2 n s l) acc = acc ++ s.data.toList) := Px.wb_name ..
    have HL : Hid (acc.length + s.size ≤ 1000000000100) := by show _ ≤ _; omega
    clear ht hx H hf hf3 hP hsz hs1
    obtain ⟨acc1, h1⟩ : ∃ t, acc ++ s.data.toList = t := ⟨_, rfl⟩
    rw [h1] at HE
    have H1 : Hid (acc ++ s.data.toList = acc1) := h1
    clear h1
    go_enter Tryd.func24, Tryd.ntmps24
    go_wp2_with (at_builtin; refine wp_apps (by rfl) _ _ (by rfl) B (.slice a acc.length cap) acc acc1 s H1.out (by rfl) ?c0 (by rfl) HL.out ?c3 ?_)
    case c0 => exact HT.out.kept K0.out
    case c3 => simp; omega
    intro a1 cap1 w1 t1 k1
    have HW : Hid (Txt w1 B (.slice a1 acc1.length cap1) acc1 ∧ Wk B w w1) := ⟨t1, (Wk.of K0.out hB).then k1⟩
    clear t1 k1
    go_wp2_with fail
    go_ret
    rw [HE.out]
    exact ⟨a1, cap1, rfl, HW.out.1, HW.out.2⟩
  have g2 : (k == 2) = false := ne_int c2
  have SG : Hid (∀ W, Calls Tryd.prog 36 #[.int .i64 k] W fun e w' => e = .returned (.string (Px.ba (Px.sgn k))) ∧ w' = W) := fun W => sign_any _ W
  by_cases c3 : k = 3 ∧ l.length = 1
  · obtain ⟨rfl, hll⟩ := c3
    obtain ⟨y, rfl⟩ : ∃ y, l = [y] := List.length_eq_one_iff.1 hll
    obtain ⟨b, o, ya, yn, yq, rfl, ⟨_, hbB⟩, hfz, y0, y1, y2, y3, yT⟩ := hx.itemD 0 Nat.zero_lt_one
    have hfy := Ex.fits_mem hf3 y (List.mem_cons_self ..)
    have hs2 : (Ex.mk 3 n s [y]).size = 1 + y.size := by rw [hs1]; simp [Ex.sizes]
    have hpy := Ex.size_pos y
    obtain ⟨acc1, h1⟩ : ∃ t, acc ++ [45] = t := ⟨_, rfl⟩
    obtain ⟨acc2, h2⟩ : ∃ t, Px.wr y acc1 4 = t := ⟨_, rfl⟩
    have b1 : acc1.length = acc.length + 1 := by rw [← h1]; simp
    have HE : Hid (Px.wb (.mk 3 n s [y]) acc = acc2) := by show _ = _; rw [Px.wb_minus, h1, h2]
    have CY : Hid (∀ W a1 cap1, Wk B w W → Txt W B (.slice a1 acc1.length cap1) acc1 → Calls Tryd.prog 17 #[.slice a1 acc1.length cap1, .agg #[.int .i64 y.kind, .int .i64 y.n, .string y.name, .slice ya yn yq], .int .i64 4] W fun e w' => Wrote B W acc2 e w') := fun W a1 cap1 hW hT => by
      rw [← h2]
      exact H y (List.mem_cons_self ..) acc1 4 B W _ _ (by omega) hT (tree_bel yT hW.bel) (Nat.le_trans hB hW.bel.size) hfy (by rw [hs2] at hsz; omega) (HPW.out.on hW.bel)
    obtain ⟨W0, hW0⟩ : ∃ W0, w.alloc (.cells #[.int .i64 3, .int .i64 n, .string s, .slice (some ⟨b, o, none⟩) 1 xq] 25) = W0 := ⟨_, rfl⟩
    have HW0 : Hid (Wk B w W0 ∧ Txt W0 B (.slice a acc.length cap) acc ∧ W0.heap[w.heap.size]? = some (.cells #[.int .i64 3, .int .i64 n, .string s, .slice (some ⟨b, o, none⟩) 1 xq] 25) ∧ B ≤ W0.heap.size) := by
      rw [← hW0]
      exact ⟨Wk.of ((Kept.refl _).al _) hB, ht.kept ((Kept.refl _).al _), Bx.heap .., by simp; omega⟩
    have hB0 : B ≤ W0.heap.size := HW0.out.2.2.2
    have HA1 : Hid (acc ++ [45] = acc1) := h1
    have HLN : Hid (acc.length ≤ 1000000000100) := by show _ ≤ _; omega
    have SS : Hid (∀ w', Wk B W0 w' → Hid (Wk B W0 w') ∧ (w'.cell? ⟨w.heap.size, 3, none⟩ = some (.slice (some ⟨b, o, none⟩) 1 xq) ∧ w'.cell? ⟨b, o, none⟩ = some (.int .i64 y.kind) ∧ w'.cell? ⟨b, o + 1, none⟩ = some (.int .i64 y.n) ∧ w'.cell? ⟨b, o + 2, none⟩ = some (.string y.name) ∧ w'.cell? ⟨b, o + 3, none⟩ = some (.slice ya yn yq))) := fun w' hw' => by
      have hW := HW0.out.1.then hw'
      have c : ∀ j u, w.cell? ⟨b, j, none⟩ = some u → w'.cell? ⟨b, j, none⟩ = some u := fun j u hu => (hW.bel.cell (p := ⟨b, j, none⟩) hbB).trans hu
      exact ⟨hw', (bx_of (hw'.box HW0.out.2.2.1)).c3, c _ _ y0, c _ _ y1, c _ _ y2, c _ _ y3⟩
    have hBX := bx_of HW0.out.2.2.1
    obtain ⟨-, q0, q1, q2, q3, q4⟩ := SS.out W0 (Wk.refl _ _)
    obtain ⟨p0, p1, p2, -, pf⟩ := hBX
    have HW1 : Hid _ := hW0
    have hlt0 : w.heap.size < W0.heap.size := block_lt_of_cell p0
    clear ht hx H hf hf3 hP hsz hs1 hs2 yT hfy h1 h2 b1 y0 y1 y2 y3 hfz HT K0 hl1 hl2 hl3 hW0 SG
    go_enter Tryd.func24, Tryd.ntmps24
    go_wp2_with fail
    rw [show _ = W0 from HW1.out]
    go_region_held3 (fun w' => Hid (Wk B W0 w') ∧ (w'.cell? ⟨w.heap.size, 3, none⟩ = some (.slice (some ⟨b, o, none⟩) 1 xq) ∧ w'.cell? ⟨b, o, none⟩ = some (.int .i64 y.kind) ∧ w'.cell? ⟨b, o + 1, none⟩ = some (.int .i64 y.n) ∧ w'.cell? ⟨b, o + 2, none⟩ = some (.string y.name) ∧ w'.cell? ⟨b, o + 3, none⟩ = some (.slice ya yn yq)))
      ((first | exact SS.out _ (Wk.of (Kept.refl _).dr hB0) | exact SS.out _ (Wk.of ((Kept.refl _).dr.al _) hB0) | exact SS.out _ ((Wk.of ((Kept.refl _).dr.al _) hB0).then k1) | exact SS.out _ (((Wk.of ((Kept.refl _).dr.al _) hB0).then k1).then k2)))
      ((first | (refine step_app (by rfl) _ _ (by rfl) B (.slice a acc.length cap) acc acc1 45 HA1.out (by rfl) (HW0.out.2.1.kept ((Kept.refl _).dr.al _)) ⟨_, 0, none⟩ (by rfl) (by simp) HLN.out (by simp; omega) ?_; intro a1 cap1 w1 t1 k1) | (go_at_call 17; refine (CY.out _ _ _ ((HW0.out.1.then (Wk.of ((Kept.refl _).dr.al _) hB0)).then k1) t1).mono ?_; rintro e w2 ⟨a2, cap2, rfl, t2, k2⟩)))
    have HW : Hid (Txt w2 B (.slice a2 acc2.length cap2) acc2 ∧ Wk B w w2) := ⟨t2, ((HW0.out.1.then (Wk.of ((Kept.refl _).dr.al _) hB0)).then k1).then k2⟩
    clear t2 k2 t1 k1
    go_wp2_with fail
    go_ret
    rw [HE.out]
    exact ⟨a2, cap2, rfl, HW.out.1, HW.out.2⟩
  by_cases c4 : Px.sgn k ≠ [] ∧ l.length = 2
  · obtain ⟨hk, hll⟩ := c4
    obtain ⟨y, z, rfl⟩ : ∃ y z, l = [y, z] := by
      match l, hll with
      | [y, z], _ => exact ⟨y, z, rfl⟩
    have k3 : k ≠ 3 := fun e => by rw [e] at hk; exact hk Px.sgn_three
    have g3 : (k == 3) = false := ne_int k3
    have HC : Hid (∀ W, Wk B w W → Txt W B (.slice a acc.length cap) acc → Calls Tryd.prog 37 #[.slice a acc.length cap, .agg #[.int .i64 k, .int .i64 n, .string s, .slice xa 2 xq]] W fun e w' => Wrote B W (Px.wb (.mk k n s [y, z]) acc) e w') := fun W hW hT =>
      binary_of k n s y z hk c1 c2 (H y (List.mem_cons_self ..)) (H z (List.mem_cons_of_mem _ (List.mem_cons_self ..))) acc B W _ _ hT (tree_bel hx hW.bel) (Nat.le_trans hB hW.bel.size) hf hsz (HPW.out.on hW.bel)
    have K0' : Hid (Kept w (w.alloc (.cells #[.int .i64 k, .int .i64 n, .string s, .slice xa 2 xq] 25))) := (Kept.refl _).al _
    have hne : (Px.ba (Px.sgn k)).toList.isEmpty = false := by
      rw [toList_data]; simp [Px.ba]; exact hk
    generalize Px.ba (Px.sgn k) = SS at *
    generalize Px.wb (.mk k n s [y, z]) acc = acc1 at *
    clear ht hx H hf hf3 hP hsz hs1 hl1 hl2 hl3 hk K0
    go_enter Tryd.func24, Tryd.ntmps24
    go_wp2_with fail
    refine (SG.out _).mono ?_
    rintro e w1 ⟨rfl, hw1⟩
    subst hw1
    go_wp2_with fail
    refine (HC.out _ (Wk.of K0'.out hB) (HT.out.kept K0'.out)).mono ?_
    rintro e w2 ⟨a2, cap2, rfl, t2, k2⟩
    have HW : Hid (Txt w2 B (.slice a2 acc1.length cap2) acc1 ∧ Wk B w w2) := ⟨t2, (Wk.of K0'.out hB).then k2⟩
    clear t2 k2
    go_wp2_with fail
    go_ret
    exact ⟨a2, cap2, rfl, HW.out.1, HW.out.2⟩
  · have HE : Hid (Px.wb (.mk k n s l) acc = acc) := Px.wb_none k n s l acc c1 c2 c3 c4
    by_cases k3 : k = 3
    · subst k3
      have hl1' : ((l.length : Int) == 1) = false := ne_int (by intro e; exact c3 ⟨rfl, by omega⟩)
      have hne : (Px.ba (Px.sgn 3)).toList.isEmpty = true := by rw [toList_data]; decide
      generalize Px.ba (Px.sgn 3) = SS at *
      clear ht hx H hf hf3 hP hsz hs1 hl1 hl2 hl3 c3 c4
      go_enter Tryd.func24, Tryd.ntmps24
      go_wp2_with fail
      refine (SG.out _).mono ?_
      rintro e w1 ⟨rfl, hw1⟩
      subst hw1
      go_wp2_with fail
      go_ret
      rw [HE.out]
      exact ⟨a, cap, rfl, HT.out.kept K0.out, Wk.of K0.out hB⟩
    have g3 : (k == 3) = false := ne_int k3
    by_cases hs : Px.sgn k = []
    · have hne : (Px.ba (Px.sgn k)).toList.isEmpty = true := by rw [toList_data, hs]; decide
      generalize Px.ba (Px.sgn k) = SS at *
      clear ht hx H hf hf3 hP hsz hs1 hl1 hl2 hl3 c3 c4
      go_enter Tryd.func24, Tryd.ntmps24
      go_wp2_with fail
      refine (SG.out _).mono ?_
      rintro e w1 ⟨rfl, hw1⟩
      subst hw1
      go_wp2_with fail
      go_ret
      rw [HE.out]
      exact ⟨a, cap, rfl, HT.out.kept K0.out, Wk.of K0.out hB⟩
    · have hne : (Px.ba (Px.sgn k)).toList.isEmpty = false := by
        rw [toList_data]; simp [Px.ba]; exact hs
      have hl2' : ((l.length : Int) == 2) = false := ne_int (by intro e; exact c4 ⟨hs, by omega⟩)
      generalize Px.ba (Px.sgn k) = SS at *
      clear ht hx H hf hf3 hP hsz hs1 hl1 hl2 hl3 c3 c4
      go_enter Tryd.func24, Tryd.ntmps24
      go_wp2_with fail
      refine (SG.out _).mono ?_
      rintro e w1 ⟨rfl, hw1⟩
      subst hw1
      go_wp2_with fail
      go_ret
      rw [HE.out]
      exact ⟨a, cap, rfl, HT.out.kept K0.out, Wk.of K0.out hB⟩
#print axioms bare_of

theorem write_any (x : Ex) : PW x := Ex.ind (fun x H => write_of x (bare_of x H)) x
#print axioms write_any
end Go.Proofs.YtbjdnniklcmcbaaDoor
