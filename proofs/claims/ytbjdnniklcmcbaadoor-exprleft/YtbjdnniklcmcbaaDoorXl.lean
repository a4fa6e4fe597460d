/- ExprLeft: the walk. -/
import Derived.Test.YtbjdnniklcmcbaaDoorLt
import Derived.Test.YtbjdnniklcmcbaaDoorR1
import Derived.Test.YtbjdnniklcmcbaaDoorPf
namespace Go.Proofs.YtbjdnniklcmcbaaDoor
open Go.RowKit
attribute [local go_sem] run_store_complex

theorem op_at (k : Nat) (hk : k < 5) : (∀ w, (Instr.index 37 (.agg #[.string ⟨#[43]⟩, .string ⟨#[45]⟩, .string ⟨#[42]⟩, .string ⟨#[47]⟩, .string ⟨#[37]⟩]) (.int .i64 (k : Int))).run Tryd.prog w = .ok (.string (Px.ba (Px.sgn ((4 + k : Nat) : Int)))) w) ∧
    (∀ w, (Instr.index 38 (.agg #[.int .i64 4, .int .i64 5, .int .i64 6, .int .i64 7, .int .i64 8]) (.int .i64 (k : Int))).run Tryd.prog w = .ok (.int .i64 ((4 + k : Nat) : Int)) w) := by
  have h9 := Tryd.sizeOf9
  have ha := Tryd.isAgg9
  have h3 := Tryd.sizeOf3
  have hb := Tryd.isAgg3
  match k, hk with
  | 0, _ => exact ⟨fun w => by simp [Instr.index, go_sem, h9, ha]; rfl, fun w => by simp [Instr.index, go_sem, h3, hb]⟩
  | 1, _ => exact ⟨fun w => by simp [Instr.index, go_sem, h9, ha]; rfl, fun w => by simp [Instr.index, go_sem, h3, hb]⟩
  | 2, _ => exact ⟨fun w => by simp [Instr.index, go_sem, h9, ha]; rfl, fun w => by simp [Instr.index, go_sem, h3, hb]⟩
  | 3, _ => exact ⟨fun w => by simp [Instr.index, go_sem, h9, ha]; rfl, fun w => by simp [Instr.index, go_sem, h3, hb]⟩
  | 4, _ => exact ⟨fun w => by simp [Instr.index, go_sem, h9, ha]; rfl, fun w => by simp [Instr.index, go_sem, h3, hb]⟩

set_option maxRecDepth 100000 in
set_option maxHeartbeats 2000000 in
theorem exprLeft_any (l : List Int) (v : Value) (op : Int) (w : World) (h : IntsR w w.heap.size l v) (hl : l.length ≤ 17592186044416) (_o1 : -9223372036854775808 ≤ op) (_o2 : op ≤ 9223372036854775807) (hE : Env w) :
    Calls Tryd.prog 6 #[v, .int .i64 op] w fun e w' => e = .returned (.bool true) ∧ Kept w w' := by
  have TX : Hid (Calls Tryd.prog 11 #[v] w fun e w' => e = .returned (.string (txt l)) ∧ Kept w w') := text_any l v w h hl
  obtain ⟨r, hr⟩ : ∃ r, Px.rd (txt l).data.toList = r := ⟨_, rfl⟩
  have RD : Hid (∀ W, Kept w W → Calls Tryd.prog 7 #[.string (txt l)] W fun e w' => GotL W r e w') := fun W hW => lread_any _ (by have := txt_size l; omega) W (hE.kept hW) r hr
  have KN : Hid (∀ W, Kept w W → Calls Tryd.prog 9 #[] W fun e w' => e = .returned (.bool true) ∧ Kept W w') := fun W hW => known_any W (hE.kept hW)
  have HRR : Hid (Px.rd (txt l).data.toList = r) := hr
  have HE : Hid (Env w) := hE
  obtain ⟨a0, cap0, rfl, -⟩ := h.out
  obtain ⟨k, hk, -, hpk⟩ := pick_nat op 5 (by omega) (by omega)
  have PK : Hid (∀ w, Calls Tryd.prog 14 #[.int .i64 op, .int .i64 5] w fun e w' => e = .returned (.int .i64 (k : Int)) ∧ w' = w) := hpk
  generalize txt l = S at TX RD
  clear h hl hE hr hpk
  go_enter Tryd.func6, Tryd.ntmps6
  go_wp2_with fail
  refine TX.out.mono ?_
  rintro e w1 ⟨rfl, k1⟩
  have K1 : Hid (Kept w w1) := k1
  clear k1
  go_wp2_with fail
  refine (RD.out _ K1.out).mono ?_
  rintro e w2 ⟨x, b, p, n, a, ll, q, rfl, hx, hb, hp, hn, hT, hK⟩
  have K2 : Hid (Kept w w2) := K1.out.then hK
  have HT : Hid (ExsIn w2 w1.heap.size w2.heap.size x.of (.slice a ll q)) := hT
  have BX : Hid (Bx (w2.alloc (.cells #[.int .i64 x.kind, .int .i64 x.n, .string x.name, .slice a ll q] 25)) w2.heap.size x.kind x.n x.name (.slice a ll q)) := Bx.new ..
  clear hT hK
  cases hro : r.1 with
  | none =>
    rw [hro] at hb hx
    have hb' : b = false := hb
    have hx' : x = ex0 := hx
    subst hb'
    have PR : Hid (∀ W, Kept w2 W → Calls Tryd.prog 8 #[.agg #[.int .i64 x.kind, .int .i64 x.n, .string x.name, .slice a ll q]] W fun e w' => e = .returned (.string (Px.ba (Px.print x))) ∧ Kept W w') := fun W hW =>
      print_any x W _ (HT.out.up (Nat.le_refl _) hW) (by rw [hx']; unfold ex0; rw [Ex.fit]; exact ⟨⟨by decide, by decide, by decide⟩, trivial⟩) (by rw [hx']; decide +kernel) ((HE.out.kept K2.out).kept hW)
    generalize Px.ba (Px.print x) = t at *
    clear hb hx hp hn hx'
    go_wp2_with fail
    refine (PR.out _ ((Kept.refl _).al _)).mono ?_
    rintro e w3 ⟨rfl, k3⟩
    have K3 : Hid (Kept w w3) := (K2.out.al _).then k3
    clear k3
    go_wp2_with fail
    refine (KN.out _ K3.out).mono ?_
    rintro e w4 ⟨rfl, k4⟩
    have K4 : Hid (Kept w w4) := K3.out.then k4
    clear k4
    go_wp2_with fail
    refine (KN.out _ K4.out).mono ?_
    rintro e w5 ⟨rfl, k5⟩
    have K5 : Hid (Kept w w5) := K4.out.then k5
    clear k5
    go_wp2_with fail
    go_ret
    exact ⟨rfl, K5.out⟩
  | some x0 =>
    rw [hro] at hb hx
    have hb' : b = true := hb
    have hx' : x = x0 := hx
    subst hb' hx'
    obtain ⟨ts, m, q1, q2, q3, q4⟩ := Px.rd_some HRR.out hro
    obtain ⟨W, D, T6, sz⟩ := read_txt q1 q2
    have hless := Px.rd_less HRR.out hro
    rw [← hp, ← hn] at hless
    have hn0 : ((n : Int) == 0) = false := ne_int (by omega)
    have hprint := (Px.written W D T6).2.1
    have hne := Px.text_ne W 1
    obtain ⟨t, htt⟩ : ∃ t, Px.ba (Px.T x 1) = t := ⟨_, rfl⟩
    have htd : t.data.toList = Px.T x 1 := by rw [← htt]; simp [Px.ba]
    have hemp : t.toList.isEmpty = false := by
      rw [toList_data, htd]; cases hc : Px.T x 1 with
      | nil => exact absurd hc hne
      | cons c d => rfl
    have htsz : t.size ≤ 6000 := by
      have : t.size = (Px.T x 1).length := by rw [← htd]; simp
      omega
    have PR : Hid (∀ W, Kept w2 W → Calls Tryd.prog 8 #[.agg #[.int .i64 x.kind, .int .i64 x.n, .string x.name, .slice a ll q]] W fun e w' => e = .returned (.string t) ∧ Kept W w') := fun W' hW => by
      have := print_any x W' _ (HT.out.up (Nat.le_refl _) hW) W.fit (by omega) ((HE.out.kept K2.out).kept hW)
      rw [hprint, htt] at this
      exact this
    obtain ⟨O, hO⟩ : ∃ O, Px.ba (Px.sgn ((4 + k : Nat) : Int)) = O := ⟨_, rfl⟩
    obtain ⟨ix1, ix2⟩ := op_at k hk
    rw [hO] at ix1
    have hOd : O.data.toList = Px.sgn ((4 + k : Nat) : Int) := by rw [← hO]; simp [Px.ba]
    have hOs : O.size ≤ 2 := by
      have := Px.sgn_len ((4 + k : Nat) : Int)
      have h2 : O.size = O.data.toList.length := by simp
      rw [h2, hOd]; exact this
    obtain ⟨rr, hrr⟩ : ∃ r, Px.rd (⟨#[40]⟩ ++ t ++ ⟨#[41, 32]⟩ ++ O ++ ⟨#[32, 51, 32, 45, 32, 52]⟩ : ByteArray).data.toList = r := ⟨_, rfl⟩
    have e1 : (⟨#[40]⟩ ++ t ++ ⟨#[41, 32]⟩ ++ O ++ ⟨#[32, 51, 32, 45, 32, 52]⟩ : ByteArray).data.toList = 40 :: (Px.T x 1 ++ 41 :: 32 :: (Px.sgn ((4 + k : Nat) : Int) ++ [32, 51, 32, 45, 32, 52])) := by simp [htd, hOd]
    have RX : Hid (∀ y, rr.1 = some y → y = Px.binE 5 (Px.binE (4 + k) x (Px.numE 3)) (Px.numE 4)) := fun y hy => Px.rd_left W D (4 + k) (by omega) (by omega) (by rw [← e1]; exact hrr) hy
    have z1 : (⟨#[40]⟩ ++ t ++ ⟨#[41, 32]⟩ ++ O ++ ⟨#[32, 51, 32, 45, 32, 52]⟩ : ByteArray).size ≤ 1125899906842624 := by
      rw [ByteArray.size_append, ByteArray.size_append, ByteArray.size_append, ByteArray.size_append]
      have h1 : (⟨#[40]⟩ : ByteArray).size = 1 := rfl
      have h2 : (⟨#[41, 32]⟩ : ByteArray).size = 2 := rfl
      have h3 : (⟨#[32, 51, 32, 45, 32, 52]⟩ : ByteArray).size = 6 := rfl
      omega
    have RD1 : Hid (∀ W, Kept w W → Calls Tryd.prog 7 #[.string (⟨#[40]⟩ ++ t ++ ⟨#[41, 32]⟩ ++ O ++ ⟨#[32, 51, 32, 45, 32, 52]⟩)] W fun e w' => GotL W rr e w') := fun W hW => lread_any _ z1 W (HE.out.kept hW) rr hrr
    clear hx hb hp hn q1 q2 q3 q4 W D T6 sz hless hprint hne htt htd hro hO hOd hrr e1 z1
    go_wp2_with fail
    refine (PR.out _ ((Kept.refl _).al _)).mono ?_
    rintro e w3 ⟨rfl, k3⟩
    have K3 : Hid (Kept w2 w3) := ((Kept.refl _).al _).then k3
    have HB3 : Hid (Bx w3 w2.heap.size x.kind x.n x.name (.slice a ll q)) := BX.out.kept k3
    clear k3
    go_wp2_with fail
    refine (KN.out _ (K2.out.then K3.out)).mono ?_
    rintro e w4 ⟨rfl, k4⟩
    have K4 : Hid (Kept w2 w4) := K3.out.then k4
    have HB4 : Hid (Bx w4 w2.heap.size x.kind x.n x.name (.slice a ll q)) := HB3.out.kept k4
    clear k4
    go_wp2_with fail
    refine (PK.out _).mono ?_
    rintro e w4' ⟨rfl, hw4⟩
    obtain rfl : w4 = w4' := hw4.symm
    clear hw4
    go_wp2_with fail
    refine (RD1.out _ (K2.out.then K4.out)).mono ?_
    rintro e w5 ⟨y, b5, p5, n5, ya, yl, yq, rfl, hy, hb5, -, -, hT5, hK5⟩
    have K5 : Hid (Kept w2 w5) := K4.out.then hK5
    have HT5 : Hid (ExsIn w5 w4.heap.size w5.heap.size y.of (.slice ya yl yq)) := hT5
    have HB5 : Hid (Bx w5 w2.heap.size x.kind x.n x.name (.slice a ll q)) := HB4.out.kept hK5
    have HY : Hid (y = oe rr.1 ∧ b5 = rr.1.isSome) := ⟨hy, hb5⟩
    clear hT5 hK5 hy hb5
    cases b5 with
    | false =>
      go_wp2_with fail
      go_ret
      exact ⟨rfl, (K2.out.then K5.out).al _⟩
    | true =>
      have HXX : Hid (y = Px.binE 5 (Px.binE (4 + k) x (Px.numE 3)) (Px.numE 4)) := by
        obtain ⟨h1, h2⟩ := HY.out
        cases hc : rr.1 with
        | none => rw [hc] at h2; cases h2
        | some z => rw [hc] at h1; rw [h1]; exact RX.out z hc
      obtain ⟨W5, hW5⟩ : ∃ W5, w5.alloc (.cells #[.int .i64 y.kind, .int .i64 y.n, .string y.name, .slice ya yl yq] 25) = W5 := ⟨_, rfl⟩
      have K6 : Hid (Kept w5 W5) := by rw [← hW5]; exact (Kept.refl _).al _
      have HY5 : Hid (Bx W5 w5.heap.size y.kind y.n y.name (.slice ya yl yq)) := by rw [← hW5]; exact Bx.new ..
      have HX5 : Hid (Bx W5 w2.heap.size x.kind x.n x.name (.slice a ll q)) := HB5.out.kept K6.out
      have HW5 : Hid _ := hW5
      obtain ⟨c0, c1, c2, c3, cf⟩ := HX5.out
      obtain ⟨d0, d1, d2, d3, df⟩ := HY5.out
      have l1 := HX5.out.lt
      have l2 := HY5.out.lt
      have hki : (k : Int) < 5 := by omega
      have FIN : Hid (∀ W7 Q N6, Kept W5 W7 → W7.heap[Q]? = some (.cells #[.int .i64 x.kind, .int .i64 x.n, .string x.name, .slice a ll q, .int .i64 1, .int .i64 3, .string ⟨#[]⟩, .slice none 0 0] 25) → W7.heap[N6]? = some (.cells #[.int .i64 (4 + (k : Int)), .int .i64 0, .string ⟨#[]⟩, .slice (some ⟨Q, 0, none⟩) 2 2, .int .i64 1, .int .i64 4, .string ⟨#[]⟩, .slice none 0 0] 25) →
          Calls Tryd.prog 12 #[.agg #[.int .i64 y.kind, .int .i64 y.n, .string y.name, .slice ya yl yq], .agg #[.int .i64 5, .int .i64 0, .string ⟨#[]⟩, .slice (some ⟨N6, 0, none⟩) 2 2]] W7 fun e w' => e = .returned (.bool true) ∧ Kept w w') := fun W7 Q N6 h7 hq7 hn7 => by
        have hQ : Q < W7.heap.size := (Array.getElem?_eq_some_iff.1 hq7).1
        have hN : N6 < W7.heap.size := (Array.getElem?_eq_some_iff.1 hn7).1
        have tx : ExsIn W7 0 W7.heap.size x.of (.slice a ll q) := HT.out.up (Nat.le_refl _) ((K5.out.then K6.out).then h7)
        have ty : ExsIn W7 0 W7.heap.size y.of (.slice ya yl yq) := HT5.out.up (Nat.le_refl _) (K6.out.then h7)
        have t1 : ExsIn W7 0 W7.heap.size [x, Px.numE 3] (.slice (some ⟨Q, 0, none⟩) 2 2) := ExsD.two (v := .slice a ll q) (u := .slice none 0 0) ⟨by omega, by omega⟩ hq7 tx (ExsD.nil _ _)
        have t2 : ExsIn W7 0 W7.heap.size [Px.binE (4 + k) x (Px.numE 3), Px.numE 4] (.slice (some ⟨N6, 0, none⟩) 2 2) := ExsD.two (v := .slice (some ⟨Q, 0, none⟩) 2 2) (u := .slice none 0 0) ⟨by omega, by omega⟩ hn7 t1 (ExsD.nil _ _)
        have := rsameExpr_any y (Px.binE 5 (Px.binE (4 + k) x (Px.numE 3)) (Px.numE 4)) W7 _ _ ty t2
        have hsm : y.same (Px.binE 5 (Px.binE (4 + k) x (Px.numE 3)) (Px.numE 4)) = true := by
          rw [HXX.out]; exact Ex.same_refl _
        rw [hsm] at this
        refine this.mono ?_
        rintro e w' ⟨rfl, hk'⟩
        exact ⟨rfl, (((K2.out.then K5.out).then K6.out).then h7).then hk'⟩
      have HPA : Hid (∀ Q, Q = W5.heap.size → Kept W5 (((W5.alloc (.cells #[.int .i64 x.kind, .int .i64 x.n, .string x.name, .slice a ll q, .int .i64 1, .int .i64 3, .string ⟨#[]⟩, .slice none 0 0] 25)).alloc (.cells #[.int .i64 (4 + (k : Int)), .int .i64 0, .string ⟨#[]⟩, .slice (some ⟨Q, 0, none⟩) 2 2] 25)).alloc (.cells #[.int .i64 (4 + (k : Int)), .int .i64 0, .string ⟨#[]⟩, .slice (some ⟨Q, 0, none⟩) 2 2, .int .i64 1, .int .i64 4, .string ⟨#[]⟩, .slice none 0 0] 25)).drew ∧ (((W5.alloc (.cells #[.int .i64 x.kind, .int .i64 x.n, .string x.name, .slice a ll q, .int .i64 1, .int .i64 3, .string ⟨#[]⟩, .slice none 0 0] 25)).alloc (.cells #[.int .i64 (4 + (k : Int)), .int .i64 0, .string ⟨#[]⟩, .slice (some ⟨Q, 0, none⟩) 2 2] 25)).alloc (.cells #[.int .i64 (4 + (k : Int)), .int .i64 0, .string ⟨#[]⟩, .slice (some ⟨Q, 0, none⟩) 2 2, .int .i64 1, .int .i64 4, .string ⟨#[]⟩, .slice none 0 0] 25)).drew.heap[Q]? = some (.cells #[.int .i64 x.kind, .int .i64 x.n, .string x.name, .slice a ll q, .int .i64 1, .int .i64 3, .string ⟨#[]⟩, .slice none 0 0] 25) ∧ (((W5.alloc (.cells #[.int .i64 x.kind, .int .i64 x.n, .string x.name, .slice a ll q, .int .i64 1, .int .i64 3, .string ⟨#[]⟩, .slice none 0 0] 25)).alloc (.cells #[.int .i64 (4 + (k : Int)), .int .i64 0, .string ⟨#[]⟩, .slice (some ⟨Q, 0, none⟩) 2 2] 25)).alloc (.cells #[.int .i64 (4 + (k : Int)), .int .i64 0, .string ⟨#[]⟩, .slice (some ⟨Q, 0, none⟩) 2 2, .int .i64 1, .int .i64 4, .string ⟨#[]⟩, .slice none 0 0] 25)).drew.heap[W5.heap.size + 1 + 1]? = some (.cells #[.int .i64 (4 + (k : Int)), .int .i64 0, .string ⟨#[]⟩, .slice (some ⟨Q, 0, none⟩) 2 2, .int .i64 1, .int .i64 4, .string ⟨#[]⟩, .slice none 0 0] 25)) := fun Q hQ => by
        refine ⟨((((Kept.refl _).al _).al _).al _).dr, ?_, heap_at (by simp) _⟩
        refine (((Kept.refl _).al _).al _ : Kept (W5.alloc (.cells #[.int .i64 x.kind, .int .i64 x.n, .string x.name, .slice a ll q, .int .i64 1, .int .i64 3, .string ⟨#[]⟩, .slice none 0 0] 25)) _).block Q (by simp; omega) |>.trans (heap_at hQ.symm _)
      have HPB : Hid (∀ Q, Q = W5.heap.size + 1 → Kept W5 (((W5.alloc (.cells #[.int .i64 (4 + (k : Int)), .int .i64 0, .string ⟨#[]⟩, .slice (some ⟨Q, 0, none⟩) 2 2] 25)).alloc (.cells #[.int .i64 x.kind, .int .i64 x.n, .string x.name, .slice a ll q, .int .i64 1, .int .i64 3, .string ⟨#[]⟩, .slice none 0 0] 25)).alloc (.cells #[.int .i64 (4 + (k : Int)), .int .i64 0, .string ⟨#[]⟩, .slice (some ⟨Q, 0, none⟩) 2 2, .int .i64 1, .int .i64 4, .string ⟨#[]⟩, .slice none 0 0] 25)).drew ∧ (((W5.alloc (.cells #[.int .i64 (4 + (k : Int)), .int .i64 0, .string ⟨#[]⟩, .slice (some ⟨Q, 0, none⟩) 2 2] 25)).alloc (.cells #[.int .i64 x.kind, .int .i64 x.n, .string x.name, .slice a ll q, .int .i64 1, .int .i64 3, .string ⟨#[]⟩, .slice none 0 0] 25)).alloc (.cells #[.int .i64 (4 + (k : Int)), .int .i64 0, .string ⟨#[]⟩, .slice (some ⟨Q, 0, none⟩) 2 2, .int .i64 1, .int .i64 4, .string ⟨#[]⟩, .slice none 0 0] 25)).drew.heap[Q]? = some (.cells #[.int .i64 x.kind, .int .i64 x.n, .string x.name, .slice a ll q, .int .i64 1, .int .i64 3, .string ⟨#[]⟩, .slice none 0 0] 25) ∧ (((W5.alloc (.cells #[.int .i64 (4 + (k : Int)), .int .i64 0, .string ⟨#[]⟩, .slice (some ⟨Q, 0, none⟩) 2 2] 25)).alloc (.cells #[.int .i64 x.kind, .int .i64 x.n, .string x.name, .slice a ll q, .int .i64 1, .int .i64 3, .string ⟨#[]⟩, .slice none 0 0] 25)).alloc (.cells #[.int .i64 (4 + (k : Int)), .int .i64 0, .string ⟨#[]⟩, .slice (some ⟨Q, 0, none⟩) 2 2, .int .i64 1, .int .i64 4, .string ⟨#[]⟩, .slice none 0 0] 25)).drew.heap[W5.heap.size + 1 + 1]? = some (.cells #[.int .i64 (4 + (k : Int)), .int .i64 0, .string ⟨#[]⟩, .slice (some ⟨Q, 0, none⟩) 2 2, .int .i64 1, .int .i64 4, .string ⟨#[]⟩, .slice none 0 0] 25)) := fun Q hQ => by
        refine ⟨((((Kept.refl _).al _).al _).al _).dr, ?_, heap_at (by simp) _⟩
        refine ((Kept.refl _).al _ : Kept ((W5.alloc (.cells #[.int .i64 (4 + (k : Int)), .int .i64 0, .string ⟨#[]⟩, .slice (some ⟨Q, 0, none⟩) 2 2] 25)).alloc (.cells #[.int .i64 x.kind, .int .i64 x.n, .string x.name, .slice a ll q, .int .i64 1, .int .i64 3, .string ⟨#[]⟩, .slice none 0 0] 25)) _).block Q (by simp; omega) |>.trans (heap_at (by simp; omega) _)
      clear hW5
      go_wp2_with fail
      rw [show _ = W5 from HW5.out]
      go_region
      · go_wp2_with fail
        obtain ⟨g1, g2, g3⟩ := HPA.out _ rfl
        refine (FIN.out _ _ _ g1 g2 g3).mono ?_
        rintro e w7 ⟨rfl, k7⟩
        have K7 : Hid (Kept w w7) := k7
        clear k7 g1 g2 g3
        go_wp2_with fail
        go_ret
        exact ⟨rfl, K7.out⟩
      · go_wp2_with fail
        obtain ⟨g1, g2, g3⟩ := HPB.out _ rfl
        refine (FIN.out _ _ _ g1 g2 g3).mono ?_
        rintro e w7 ⟨rfl, k7⟩
        have K7 : Hid (Kept w w7) := k7
        clear k7 g1 g2 g3
        go_wp2_with fail
        go_ret
        exact ⟨rfl, K7.out⟩
#print axioms exprLeft_any
end Go.Proofs.YtbjdnniklcmcbaaDoor
