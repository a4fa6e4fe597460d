/- ExprBack: the walk. -/
import Derived.Test.YtbjdnniklcmcbaaDoorLt
import Derived.Test.YtbjdnniklcmcbaaDoorPf
import Derived.Test.YtbjdnniklcmcbaaDoorR1
namespace Go.Proofs.YtbjdnniklcmcbaaDoor
open Go.RowKit
attribute [local go_sem] run_store_complex

set_option maxRecDepth 100000 in
set_option maxHeartbeats 2000000 in
theorem exprBack_any (l : List Int) (v : Value) (w : World) (h : IntsR w w.heap.size l v) (hl : l.length ≤ 17592186044416) (hE : Env w) :
    Calls Tryd.prog 4 #[v] w fun e w' => e = .returned (.bool true) ∧ Kept w w' := by
  have TX : Hid (Calls Tryd.prog 11 #[v] w fun e w' => e = .returned (.string (txt l)) ∧ Kept w w') := text_any l v w h hl
  obtain ⟨r, hr⟩ : ∃ r, Px.rd (txt l).data.toList = r := ⟨_, rfl⟩
  have RD : Hid (∀ W, Kept w W → Calls Tryd.prog 7 #[.string (txt l)] W fun e w' => GotL W r e w') := fun W hW => lread_any _ (by have := txt_size l; omega) W (hE.kept hW) r hr
  have KN : Hid (∀ W, Kept w W → Calls Tryd.prog 9 #[] W fun e w' => e = .returned (.bool true) ∧ Kept W w') := fun W hW => known_any W (hE.kept hW)
  have HRR : Hid (Px.rd (txt l).data.toList = r) := hr
  have HE : Hid (Env w) := hE
  obtain ⟨a0, cap0, rfl, -⟩ := h.out
  generalize txt l = S at TX RD
  clear h hl hE hr
  go_enter Tryd.func4, Tryd.ntmps4
  go_wp2_with fail
  refine TX.out.mono ?_
  rintro e w1 ⟨rfl, k1⟩
  have K1 : Hid (Kept w w1) := k1
  clear k1
  go_wp2_with fail
  refine (RD.out _ K1.out).mono ?_
  rintro e w2 ⟨x, b, p, n, a, ll, q, rfl, hx, hb, hp, hn, hT, hK⟩
  have K2 : Hid (Kept w w2) := K1.out.then hK
  have HT : Hid (ExsIn w2 w1.heap.size w2.heap.size x.of (.slice a ll q)) := hT
  clear hT hK
  cases hro : r.1 with
  | none =>
    rw [hro] at hb
    have hb' : b = false := hb
    subst hb'
    clear hb hx hp hn
    go_wp2_with fail
    refine (KN.out _ (K2.out.al _)).mono ?_
    rintro e w3 ⟨rfl, k3⟩
    have K3 : Hid (Kept w w3) := (K2.out.al _).then k3
    clear k3
    go_wp2_with fail
    refine (KN.out _ K3.out).mono ?_
    rintro e w4 ⟨rfl, k4⟩
    have K4 : Hid (Kept w w4) := K3.out.then k4
    clear k4
    go_wp2_with fail
    go_ret
    exact ⟨rfl, K4.out⟩
  | some x0 =>
    rw [hro] at hb hx
    have hb' : b = true := hb
    have hx' : x = x0 := hx
    subst hb' hx'
    obtain ⟨ts, m, q1, q2, q3, q4⟩ := Px.rd_some HRR.out hro
    obtain ⟨W, D, T6, sz⟩ := read_txt q1 q2
    have hless := Px.rd_less HRR.out hro
    rw [← hp, ← hn] at hless
    have hlt : (p : Int) < (n : Int) := by omega
    obtain ⟨N, hN, hrw⟩ := Px.rd_written W D T6
    have hprint := (Px.written W D T6).2.1
    have hne := Px.text_ne W 1
    obtain ⟨t, htt⟩ : ∃ t, Px.ba (Px.T x 1) = t := ⟨_, rfl⟩
    have htd : t.data.toList = Px.T x 1 := by rw [← htt]; simp [Px.ba]
    have hemp : t.toList.isEmpty = false := by
      rw [toList_data, htd]; cases hc : Px.T x 1 with
      | nil => exact absurd hc hne
      | cons c d => rfl
    have PR : Hid (∀ W y va vn vq, y = x → Kept w W → ExsIn W 0 W.heap.size y.of (.slice va vn vq) → Calls Tryd.prog 8 #[.agg #[.int .i64 y.kind, .int .i64 y.n, .string y.name, .slice va vn vq]] W fun e w' => e = .returned (.string t) ∧ Kept W w') := fun W' y va vn vq hy hW hT => by
      subst hy
      have := print_any y W' _ hT W.fit (by omega) (HE.out.kept hW)
      rw [hprint, htt] at this
      exact this
    have RT : Hid (∀ W y va vn vq, y = x → Kept w W → ExsIn W 0 W.heap.size y.of (.slice va vn vq) → Calls Tryd.prog 10 #[.agg #[.int .i64 y.kind, .int .i64 y.n, .string y.name, .slice va vn vq]] W fun e w' => e = .returned (.bool true) ∧ Kept W w') := fun W' y va vn vq hy hW hT => by
      subst hy
      exact right_any y W' _ hT W.fit (by omega) (HE.out.kept hW) true (by rw [hprint]; cases hc : Px.T y 1 with
        | nil => exact absurd hc hne
        | cons c d => rfl)
    have htsz : t.size ≤ 1125899906842624 := by
      have : t.size = (Px.T x 1).length := by rw [← htd]; simp
      omega
    have RD2 : Hid (∀ W, Kept w W → Calls Tryd.prog 7 #[.string t] W fun e w' => GotL W (some x, N, N + 1) e w') := fun W hW => lread_any t htsz W (HE.out.kept hW) _ (by rw [htd]; exact hrw)
    clear hx hb hp hn q1 q2 q3 q4 W D T6 sz hless hrw hprint hne htt htd hro htsz
    go_wp2_with fail
    refine (KN.out _ (K2.out.al _)).mono ?_
    rintro e w3 ⟨rfl, k3⟩
    have K3 : Hid (Kept w2 w3) := ((Kept.refl w2).al _).then k3
    have HB3 : Hid (Bx w3 w2.heap.size x.kind x.n x.name (.slice a ll q)) := (Bx.new ..).kept k3
    obtain ⟨c0, c1, c2, c3, cf⟩ := HB3.out
    have hw3 := HB3.out.lt
    clear k3
    go_wp2_with fail
    refine (PR.out _ _ _ _ _ rfl (K2.out.then K3.out) (HT.out.up (Nat.le_refl _) K3.out)).mono ?_
    rintro e w4 ⟨rfl, k4⟩
    have K4 : Hid (Kept w2 w4) := K3.out.then k4
    have HB4 : Hid (Bx w4 w2.heap.size x.kind x.n x.name (.slice a ll q)) := HB3.out.kept k4
    clear k4 c0 c1 c2 c3 cf
    go_wp2_with fail
    refine (RD2.out _ (K2.out.then K4.out)).mono ?_
    rintro e w5 ⟨y, b5, p5, n5, ya, yl, yq, rfl, hy, hb5, hp5, hn5, hT5, hK5⟩
    have hy' : y = x := hy
    have hb5' : b5 = true := hb5
    have hp5' : p5 = N := hp5
    have hn5' : n5 = N + 1 := hn5
    subst hb5' hp5' hn5'
    have K5 : Hid (Kept w2 w5) := K4.out.then hK5
    have HY : Hid (y = x ∧ ExsIn w5 w4.heap.size w5.heap.size y.of (.slice ya yl yq)) := ⟨hy', hT5⟩
    have HB5 : Hid (Bx w5 w2.heap.size x.kind x.n x.name (.slice a ll q)) := HB4.out.kept hK5
    have SM : Hid (∀ W, Kept w5 W → Calls Tryd.prog 12 #[.agg #[.int .i64 x.kind, .int .i64 x.n, .string x.name, .slice a ll q], .agg #[.int .i64 y.kind, .int .i64 y.n, .string y.name, .slice ya yl yq]] W fun e w' => e = .returned (.bool true) ∧ Kept W w') := fun W hW => by
      have := rsameExpr_any x y W _ _ (HT.out.up (Nat.le_refl _) (K5.out.then hW)) (HY.out.2.up (Nat.le_refl _) hW)
      rw [HY.out.1, Ex.same_refl] at this
      rw [HY.out.1]
      exact this
    obtain ⟨c0, c1, c2, c3, cf⟩ := HB5.out
    have hw5 := HB5.out.lt
    clear hy hb5 hp5 hn5 hT5 hK5 hy'
    go_wp2_with fail
    refine (SM.out _ ((Kept.refl _).al _)).mono ?_
    rintro e w6 ⟨rfl, k6⟩
    have K6 : Hid (Kept w5 w6) := ((Kept.refl _).al _).then k6
    have HC6 : Hid (Bx w6 w5.heap.size y.kind y.n y.name (.slice ya yl yq)) := (Bx.new ..).kept k6
    have HB6 : Hid (Bx w6 w2.heap.size x.kind x.n x.name (.slice a ll q)) := HB5.out.kept K6.out
    obtain ⟨d0, d1, d2, d3, df⟩ := HC6.out
    have hw6 := HC6.out.lt
    clear k6 c0 c1 c2 c3 cf
    go_wp2_with fail
    refine (PR.out _ _ _ _ _ HY.out.1 ((K2.out.then K5.out).then K6.out) (HY.out.2.up (Nat.le_refl _) K6.out)).mono ?_
    rintro e w7 ⟨rfl, k7⟩
    have K7 : Hid (Kept w2 w7) := (K5.out.then K6.out).then k7
    obtain ⟨c0, c1, c2, c3, cf⟩ := HB6.out.kept k7
    have hw7 : w2.heap.size < w7.heap.size := block_lt_of_cell c0
    clear k7 d0 d1 d2 d3 df
    go_wp2_with fail
    refine (RT.out _ _ _ _ _ rfl (K2.out.then K7.out) (HT.out.up (Nat.le_refl _) K7.out)).mono ?_
    rintro e w8 ⟨rfl, k8⟩
    have K8 : Hid (Kept w w8) := (K2.out.then K7.out).then k8
    clear k8
    go_wp2_with fail
    go_ret
    exact ⟨rfl, K8.out⟩
#print axioms exprBack_any
end Go.Proofs.YtbjdnniklcmcbaaDoor
