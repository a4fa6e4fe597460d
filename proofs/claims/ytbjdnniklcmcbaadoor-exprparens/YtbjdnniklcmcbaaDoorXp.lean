/- ExprParens: the walk. -/
import Derived.Test.YtbjdnniklcmcbaaDoorLk
import Derived.Test.YtbjdnniklcmcbaaDoorPf
import Derived.Test.YtbjdnniklcmcbaaDoorHe
import Derived.Test.YtbjdnniklcmcbaaDoorR1
namespace Go.Proofs.YtbjdnniklcmcbaaDoor
open Go.RowKit
attribute [local go_sem] run_store_complex

set_option maxRecDepth 100000 in
set_option maxHeartbeats 2000000 in
theorem exprParens_any (l : List Int) (v : Value) (w : World) (h : IntsR w w.heap.size l v) (hl : l.length ≤ 17592186044416) (hE : Env w) :
    Calls Tryd.prog 5 #[v] w fun e w' => e = .returned (.bool true) ∧ Kept w w' := by
  have EX : Hid (Calls Tryd.prog 13 #[v, .int .i64 0] w fun e w' => MadeE w 6 e w') := expr_any 6 l w v 0 h hl (by omega) (by omega)
  have KN : Hid (∀ W, Kept w W → Calls Tryd.prog 9 #[] W fun e w' => e = .returned (.bool true) ∧ Kept W w') := fun W hW => known_any W (hE.kept hW)
  have HE : Hid (Env w) := hE
  obtain ⟨a0, cap0, rfl, -⟩ := h.out
  clear h hl hE
  go_enter Tryd.func5, Tryd.ntmps5
  go_wp2_with fail
  refine EX.out.mono ?_
  rintro r0 w1 ⟨x, xv, rfl, hT, ⟨hsz, hfit⟩, hK⟩
  obtain ⟨a, ll, q, rfl⟩ := hT.form
  have K1 : Hid (Kept w w1) := hK
  have HT : Hid (ExsIn w1 w.heap.size w1.heap.size x.of (.slice a ll q)) := hT
  have hsz' : 24 * x.size ≤ 1000000000000 := by
    have : (2 : Nat) ^ (6 + 1) = 128 := by decide
    omega
  have PR : Hid (∀ W, Kept w1 W → Calls Tryd.prog 8 #[.agg #[.int .i64 x.kind, .int .i64 x.n, .string x.name, .slice a ll q]] W fun e w' => e = .returned (.string (Px.ba (Px.print x))) ∧ Kept W w') := fun W hW =>
    print_any x W _ (HT.out.up (Nat.le_refl _) hW) hfit hsz' ((HE.out.kept K1.out).kept hW)
  have RT : Hid (∀ b, (!(Px.print x).isEmpty) = b → ∀ W, Kept w1 W → Calls Tryd.prog 10 #[.agg #[.int .i64 x.kind, .int .i64 x.n, .string x.name, .slice a ll q]] W fun e w' => e = .returned (.bool b) ∧ Kept W w') := fun b hb W hW =>
    right_any x W _ (HT.out.up (Nat.le_refl _) hW) hfit hsz' ((HE.out.kept K1.out).kept hW) b hb
  have BX : Hid (Bx (w1.alloc (.cells #[.int .i64 x.kind, .int .i64 x.n, .string x.name, .slice a ll q] 25)) w1.heap.size x.kind x.n x.name (.slice a ll q)) := Bx.new ..
  clear hT hK hsz hsz' hfit
  by_cases hp : Px.print x = []
  · have HPE : Hid (Px.print x = []) := hp
    have hemp : (Px.ba (Px.print x)).toList.isEmpty = true := by rw [hp, toList_data]; rfl
    generalize Px.ba (Px.print x) = t at *
    clear hp
    go_wp2_with fail
    refine (PR.out _ ((Kept.refl _).al _)).mono ?_
    rintro e w2 ⟨rfl, k2⟩
    have K2 : Hid (Kept w1 w2) := ((Kept.refl _).al _).then k2
    have HB2 : Hid (Bx w2 w1.heap.size x.kind x.n x.name (.slice a ll q)) := BX.out.kept k2
    clear k2
    go_wp2_with fail
    refine (KN.out _ (K1.out.then K2.out)).mono ?_
    rintro e w3 ⟨rfl, k3⟩
    have K3 : Hid (Kept w1 w3) := K2.out.then k3
    obtain ⟨c0, c1, c2, c3, cf⟩ := HB2.out.kept k3
    have hw3 : w1.heap.size < w3.heap.size := block_lt_of_cell c0
    clear k3
    go_wp2_with fail
    refine (RT.out false (by rw [HPE.out]; rfl) _ K3.out).mono ?_
    rintro e w4 ⟨rfl, k4⟩
    have K4 : Hid (Kept w w4) := (K1.out.then K3.out).then k4
    clear k4
    go_wp2_with fail
    go_ret
    exact ⟨rfl, K4.out⟩
  · obtain ⟨W, D, hpt, T6⟩ := Px.print_form hp
    have hemp : (Px.ba (Px.print x)).toList.isEmpty = false := by
      rw [toList_data]; simp only [Px.ba]; cases hc : Px.print x with
      | nil => exact absurd hc hp
      | cons c d => rfl
    have htd : (Px.ba (Px.print x)).data.toList = Px.T x 1 := by rw [hpt]; simp [Px.ba]
    have htz : (Px.ba (Px.print x)).size ≤ 6000 := by
      have : (Px.ba (Px.print x)).size = (Px.T x 1).length := by rw [← htd]; simp
      omega
    generalize Px.ba (Px.print x) = t at *
    obtain ⟨r1, hr1⟩ : ∃ r, Px.rd (⟨#[40]⟩ ++ t ++ ⟨#[41]⟩ : ByteArray).data.toList = r := ⟨_, rfl⟩
    obtain ⟨r2, hr2⟩ : ∃ r, Px.rd (⟨#[45, 40]⟩ ++ t ++ ⟨#[41]⟩ : ByteArray).data.toList = r := ⟨_, rfl⟩
    have e1 : (⟨#[40]⟩ ++ t ++ ⟨#[41]⟩ : ByteArray).data.toList = 40 :: (Px.T x 1 ++ [41]) := by simp [htd]
    have e2 : (⟨#[45, 40]⟩ ++ t ++ ⟨#[41]⟩ : ByteArray).data.toList = 45 :: 40 :: (Px.T x 1 ++ [41]) := by simp [htd]
    have R1 : Hid (∀ y, r1.1 = some y → y = x) := fun y hy => Px.rd_paren W D (by rw [← e1]; exact hr1) hy
    have R2 : Hid (∀ y, r2.1 = some y → y = Px.minusE x) := fun y hy => Px.rd_minus W D (by rw [← e2]; exact hr2) hy
    have z1 : (⟨#[40]⟩ ++ t ++ ⟨#[41]⟩ : ByteArray).size ≤ 1125899906842624 := by
      rw [ByteArray.size_append, ByteArray.size_append]; have : (⟨#[40]⟩ : ByteArray).size = 1 := rfl; have : (⟨#[41]⟩ : ByteArray).size = 1 := rfl; omega
    have z2 : (⟨#[45, 40]⟩ ++ t ++ ⟨#[41]⟩ : ByteArray).size ≤ 1125899906842624 := by
      rw [ByteArray.size_append, ByteArray.size_append]; have : (⟨#[45, 40]⟩ : ByteArray).size = 2 := rfl; have : (⟨#[41]⟩ : ByteArray).size = 1 := rfl; omega
    have RD1 : Hid (∀ W, Kept w W → Calls Tryd.prog 7 #[.string (⟨#[40]⟩ ++ t ++ ⟨#[41]⟩)] W fun e w' => GotL W r1 e w') := fun W hW => lread_any _ z1 W (HE.out.kept hW) r1 hr1
    have RD2 : Hid (∀ W, Kept w W → Calls Tryd.prog 7 #[.string (⟨#[45, 40]⟩ ++ t ++ ⟨#[41]⟩)] W fun e w' => GotL W r2 e w') := fun W hW => lread_any _ z2 W (HE.out.kept hW) r2 hr2
    clear hp W D hpt T6 htd hr1 hr2 e1 e2 z1 z2
    go_wp2_with fail
    refine (PR.out _ ((Kept.refl _).al _)).mono ?_
    rintro e w2 ⟨rfl, k2⟩
    have K2 : Hid (Kept w1 w2) := ((Kept.refl _).al _).then k2
    have HB2 : Hid (Bx w2 w1.heap.size x.kind x.n x.name (.slice a ll q)) := BX.out.kept k2
    clear k2
    go_wp2_with fail
    refine (RD1.out _ (K1.out.then K2.out)).mono ?_
    rintro e w3 ⟨y1, b1, p1, n1, ya, yl, yq, rfl, hy1, hb1, -, -, hT3, hK3⟩
    have K3 : Hid (Kept w1 w3) := K2.out.then hK3
    have HT3 : Hid (ExsIn w3 w2.heap.size w3.heap.size y1.of (.slice ya yl yq)) := hT3
    have HB3 : Hid (Bx w3 w1.heap.size x.kind x.n x.name (.slice a ll q)) := HB2.out.kept hK3
    have BY : Hid (Bx (w3.alloc (.cells #[.int .i64 y1.kind, .int .i64 y1.n, .string y1.name, .slice ya yl yq] 25)) w3.heap.size y1.kind y1.n y1.name (.slice ya yl yq)) := Bx.new ..
    have HY1 : Hid (y1 = oe r1.1 ∧ b1 = r1.1.isSome) := ⟨hy1, hb1⟩
    clear hT3 hK3 hy1 hb1
    go_wp2_with fail
    refine (RD2.out _ ((K1.out.then K3.out).al _)).mono ?_
    rintro e w4 ⟨y2, b2, p2, n2, za, zl, zq, rfl, hy2, hb2, -, -, hT4, hK4⟩
    have K4 : Hid (Kept w3 w4) := ((Kept.refl _).al _).then hK4
    have HT4 : Hid (ExsIn w4 ((w3.alloc (.cells #[.int .i64 y1.kind, .int .i64 y1.n, .string y1.name, .slice ya yl yq] 25))).heap.size w4.heap.size y2.of (.slice za zl zq)) := hT4
    have HB4 : Hid (Bx w4 w1.heap.size x.kind x.n x.name (.slice a ll q)) := HB3.out.kept K4.out
    have HC4 : Hid (Bx w4 w3.heap.size y1.kind y1.n y1.name (.slice ya yl yq)) := BY.out.kept hK4
    have BZ : Hid (Bx (w4.alloc (.cells #[.int .i64 y2.kind, .int .i64 y2.n, .string y2.name, .slice za zl zq] 25)) w4.heap.size y2.kind y2.n y2.name (.slice za zl zq)) := Bx.new ..
    have HY2 : Hid (y2 = oe r2.1 ∧ b2 = r2.1.isSome) := ⟨hy2, hb2⟩
    clear hT4 hK4 hy2 hb2
    cases b1 with
    | false =>
      go_wp2_with fail
      refine (KN.out _ (((K1.out.then K3.out).then K4.out).al _)).mono ?_
      rintro e w5 ⟨rfl, k5⟩
      have K5 : Hid (Kept w w5) := (((K1.out.then K3.out).then K4.out).al _).then k5
      clear k5
      go_wp2_with fail
      go_ret
      exact ⟨rfl, K5.out⟩
    | true =>
      cases b2 with
      | false =>
        go_wp2_with fail
        refine (KN.out _ (((K1.out.then K3.out).then K4.out).al _)).mono ?_
        rintro e w5 ⟨rfl, k5⟩
        have K5 : Hid (Kept w w5) := (((K1.out.then K3.out).then K4.out).al _).then k5
        clear k5
        go_wp2_with fail
        go_ret
        exact ⟨rfl, K5.out⟩
      | true =>
        have HX1 : Hid (y1 = x) := by
          obtain ⟨h1, h2⟩ := HY1.out
          cases hc : r1.1 with
          | none => rw [hc] at h2; cases h2
          | some z => rw [hc] at h1; rw [h1]; exact R1.out z hc
        have HX2 : Hid (y2 = Px.minusE x) := by
          obtain ⟨h1, h2⟩ := HY2.out
          cases hc : r2.1 with
          | none => rw [hc] at h2; cases h2
          | some z => rw [hc] at h1; rw [h1]; exact R2.out z hc
        go_wp2_with fail
        refine (KN.out _ (((K1.out.then K3.out).then K4.out).al _)).mono ?_
        rintro e w5 ⟨rfl, k5⟩
        have K5 : Hid (Kept w4 w5) := ((Kept.refl _).al _).then k5
        have HB5 : Hid (Bx w5 w1.heap.size x.kind x.n x.name (.slice a ll q)) := HB4.out.kept K5.out
        have HC5 : Hid (Bx w5 w3.heap.size y1.kind y1.n y1.name (.slice ya yl yq)) := HC4.out.kept K5.out
        have HD5 : Hid (Bx w5 w4.heap.size y2.kind y2.n y2.name (.slice za zl zq)) := BZ.out.kept k5
        have SM1 : Hid (∀ W, Kept w5 W → Calls Tryd.prog 12 #[.agg #[.int .i64 y1.kind, .int .i64 y1.n, .string y1.name, .slice ya yl yq], .agg #[.int .i64 x.kind, .int .i64 x.n, .string x.name, .slice a ll q]] W fun e w' => e = .returned (.bool true) ∧ Kept W w') := fun W hW => by
          have := rsameExpr_any y1 x W _ _ (HT3.out.up (Nat.le_refl _) ((K4.out.then K5.out).then hW)) (HT.out.up (Nat.le_refl _) (((K3.out.then K4.out).then K5.out).then hW))
          rw [HX1.out, Ex.same_refl] at this
          rw [HX1.out]
          exact this
        have l1 := HB5.out.lt
        have l2 := HC5.out.lt
        have l3 := HD5.out.lt
        obtain ⟨c0, c1, c2, c3, cf⟩ := HB5.out
        obtain ⟨d0, d1, d2, d3, df⟩ := HC5.out
        clear k5
        go_wp2_with fail
        refine (SM1.out _ (Kept.refl _)).mono ?_
        rintro e w6 ⟨rfl, k6⟩
        have K6 : Hid (Kept w5 w6) := k6
        have l4 := (HB5.out.kept k6).lt
        have l5 := (HD5.out.kept k6).lt
        obtain ⟨f0, f1, f2, f3, ff⟩ := HB5.out.kept k6
        obtain ⟨g0, g1, g2, g3, gf⟩ := HD5.out.kept k6
        clear k6 c0 c1 c2 c3 cf d0 d1 d2 d3 df
        have SM2 : Hid (Calls Tryd.prog 12 #[.agg #[.int .i64 y2.kind, .int .i64 y2.n, .string y2.name, .slice za zl zq], .agg #[.int .i64 3, .int .i64 0, .string ⟨#[]⟩, .slice (some ⟨w6.heap.size, 0, none⟩) 1 1]] (w6.alloc (.cells #[.int .i64 x.kind, .int .i64 x.n, .string x.name, .slice a ll q] 25)) fun e w' => e = .returned (.bool true) ∧ Kept (w6.alloc (.cells #[.int .i64 x.kind, .int .i64 x.n, .string x.name, .slice a ll q] 25)) w') := by
          have hka : Kept w6 (w6.alloc (.cells #[.int .i64 x.kind, .int .i64 x.n, .string x.name, .slice a ll q] 25)) := (Kept.refl _).al _
          have t1 := HT4.out.up (Nat.le_refl _) ((K5.out.then K6.out).then hka)
          have t2 := HT.out.up (Nat.le_refl _) ((((K3.out.then K4.out).then K5.out).then K6.out).then hka)
          have t3 : ExsIn (w6.alloc (.cells #[.int .i64 x.kind, .int .i64 x.n, .string x.name, .slice a ll q] 25)) 0 (w6.alloc (.cells #[.int .i64 x.kind, .int .i64 x.n, .string x.name, .slice a ll q] 25)).heap.size [x] (.slice (some ⟨w6.heap.size, 0, none⟩) 1 1) := ExsD.one ⟨by omega, by simp⟩ (heap_alloc_new _ _) t2
          have := rsameExpr_any y2 (Px.minusE x) _ _ _ t1 t3
          rw [HX2.out, Ex.same_refl] at this
          rw [HX2.out]
          exact this
        go_wp2_with fail
        refine SM2.out.mono ?_
        rintro e w7 ⟨rfl, k7⟩
        have K7 : Hid (Kept w w7) := (((((K1.out.then K3.out).then K4.out).then K5.out).then K6.out).al _).then k7
        clear k7
        go_wp2_with fail
        go_ret
        exact ⟨rfl, K7.out⟩
#print axioms exprParens_any
end Go.Proofs.YtbjdnniklcmcbaaDoor
