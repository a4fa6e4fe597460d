/- ParseMore: threads one behind the other are read as each alone. -/
import Derived.Test.YteaopephdjoegaaDoorPz
import Derived.Test.YteaopephdjoegaaDoorSh
import Derived.Test.YteaopephdjoegaaDoorSn
import Derived.Test.YteaopephdjoegaaDoorR3
import Derived.Test.YteaopephdjoegaaDoorKn5
import Derived.Deep.RegionHeld3
import Derived.Deep.DeepCutAuto
namespace Go.Proofs.YteaopephdjoegaaDoor
open Go.RowKit
attribute [local go_sem] run_store_complex
attribute [local go_sem ↓] add_fit

section
variable (w : World) (a : Option Addr) (n cap : Nat)
set_option maxRecDepth 100000 in
theorem cut_t1 (h1 : (1 : Int) ≤ n) : (Instr.sliceAt 23 (.slice a n cap) (some (.int .i64 1)) none none).run Tryd.prog w = .ok (.slice (cutAt a 1 cap 1) (n - 1) (cap - 1)) w :=
  run_cut_l Tryd.underlying23 rfl Tryd.sizeOf31 a n cap 1 (by omega) w
set_option maxRecDepth 100000 in
theorem cut_th1 (h1 : (1 : Int) ≤ cap) : (Instr.sliceAt 23 (.slice a n cap) none (some (.int .i64 1)) none).run Tryd.prog w = .ok (.slice (cutAt a 0 cap 1) 1 cap) w :=
  run_cut_h Tryd.underlying23 rfl Tryd.sizeOf31 a n cap 1 (by omega) w
end
attribute [local go_sem ↓] cut_t1 cut_th1

theorem acts_nil (w : World) (hi : Nat) : ActsR w hi [] (.slice none 0 0) := ⟨none, 0, rfl, Nat.le_refl _, by omega, fun i hi => by simp at hi, fun x hx => by cases hx⟩

theorem TsD.head {w : World} {D : Nat → Prop} {x y : List St} {a : Option Addr} {cap : Nat} (h : TsD w D [x, y] (.slice a 2 cap)) : TsD w D [x] (.slice (cutAt a 0 cap 1) 1 cap) := by
  obtain ⟨a, cap, f, e, h1, h3, h4⟩ := h.out
  cases e
  have hc := h1.le
  obtain ⟨b, o, rfl, hD, hf, hr⟩ := h3 0 (by simp)
  have hc2 : 2 ≤ cap := hc
  refine ⟨cutAt (some ⟨b, o, none⟩) 0 cap 1, cap, f, rfl, ⟨by show 1 ≤ cap; omega, h1.big, fun h => ?_⟩, fun i hi => ?_, fun i hi => ?_⟩
  · rw [cutAt_some (by omega)] at h; cases h
  · obtain rfl : i = 0 := by simpa using hi
    exact ⟨b, o + 0 * 1, cutAt_some (by omega), hD, hf, hr⟩
  · obtain rfl : i = 0 := by simpa using hi
    exact h4 0 (by simp)
theorem TsD.last {w : World} {D : Nat → Prop} {x y : List St} {a : Option Addr} {cap : Nat} (h : TsD w D [x, y] (.slice a 2 cap)) : TsD w D [y] (.slice (cutAt a 1 cap 1) 1 (cap - 1)) := by
  obtain ⟨a, cap, f, e, h1, h3, h4⟩ := h.out
  cases e
  have hc := h1.le
  obtain ⟨b, o, rfl, hD, hf, hr⟩ := h3 1 (by simp)
  have hc2 : 2 ≤ cap := hc
  have hb := h1.big
  refine ⟨cutAt (some ⟨b, o, none⟩) 1 cap 1, cap - 1, fun _ => f 1, rfl, ⟨by show 1 ≤ cap - 1; omega, by omega, fun h => ?_⟩, fun i hi => ?_, fun i hi => ?_⟩
  · rw [cutAt_some (by omega)] at h; cases h
  · obtain rfl : i = 0 := by simpa using hi
    exact ⟨b, o + 1 * 1, cutAt_some (by omega), hD, hf, hr⟩
  · obtain rfl : i = 0 := by simpa using hi
    exact h4 1 (by simp)

theorem cell_new {w : World} (cs : Array Value) (ty n : Nat) (hn : w.heap.size = n) (j : Nat) (v : Value) (h : cs[j]? = some v) : (w.alloc (.cells cs ty)).cell? ⟨n, j, none⟩ = some v := by
  subst hn; simp [h]
theorem box_new (w : World) (x y : Value) (ty : Nat) : BoxS (w.alloc (.cells #[x, y] ty)) w.heap.size [x, y] := by
  refine ⟨fun j v hv => ?_, fun j => by simp, by simp⟩
  rw [Nat.zero_add]
  match j, hv with
  | 0, hv => cases hv; simp
  | 1, hv => cases hv; simp
theorem fin_z {W6 Wp w9 : World} {b : Nat} {v1 v2 : Value} {d : List Dc} {t : List (List St)} (hb : BoxS w9 b [.slice none 0 0, .slice none 0 0]) (hlo : W6.heap.size ≤ b) (hhi : b < Wp.heap.size) (k : Kept W6 w9) (hd : DsIn w9 Wp.heap.size w9.heap.size d v1) (ht : TsIn w9 Wp.heap.size w9.heap.size t v2) {wc : World} (hw : wc = (w9.setCell ⟨b, 0, none⟩ v1).setCell ⟨b, 1, none⟩ v2) :
    wc.cell? ⟨b, 0, none⟩ = some v1 ∧ wc.cell? ⟨b, 1, none⟩ = some v2 ∧ Hid (Kept W6 wc ∧ DsIn wc 0 wc.heap.size d v1 ∧ TsIn wc 0 wc.heap.size t v2) := by
  have hw : wc = w9.setCells b 0 [v1, v2] := hw
  subst hw
  have hr := World.rangeAt_setCells_same w9 b 0 [v1, v2] (hb.there 0 2 (by simp))
  have hs := size_setCells b [v1, v2] 0 w9
  have st : StaysD (Rng Wp.heap.size w9.heap.size) w9 (w9.setCells b 0 [v1, v2]) := fun j hj => heap_setCells _ _ _ _ j (by have := hj.1; omega)
  refine ⟨hr 0 _ rfl, hr 1 _ rfl, Below.setCells k hlo _ _, (hd.stays st).mono (Rng.up (Nat.zero_le _) (by omega)), (ht.stays st).mono (Rng.up (Nat.zero_le _) (by omega))⟩
theorem fin_z' {W6 Wp w9 : World} {v1 v2 : Value} {ty : Nat} {d : List Dc} {t : List (List St)} (k : Kept W6 w9) (hd : DsIn w9 Wp.heap.size w9.heap.size d v1) (ht : TsIn w9 Wp.heap.size w9.heap.size t v2) {wc : World} (hw : wc = w9.alloc (.cells #[v1, v2] ty)) :
    wc.cell? ⟨w9.heap.size, 0, none⟩ = some v1 ∧ wc.cell? ⟨w9.heap.size, 1, none⟩ = some v2 ∧ Hid (Kept W6 wc ∧ DsIn wc 0 wc.heap.size d v1 ∧ TsIn wc 0 wc.heap.size t v2) := by
  subst hw
  exact ⟨cell_new _ _ _ rfl 0 _ rfl, cell_new _ _ _ rfl 1 _ rfl, k.al _, hd.up (Nat.le_refl _) ((Kept.refl _).al _), ht.up (Nat.le_refl _) ((Kept.refl _).al _)⟩
theorem DsD.nil (w : World) (D : Nat → Prop) : DsD w D [] (.slice none 0 0) := ⟨none, 0, rfl, ⟨Nat.le_refl _, Nat.zero_le _, fun _ => rfl⟩, fun i hi => by simp at hi⟩

set_option maxRecDepth 100000 in
set_option maxHeartbeats 4000000 in
theorem parseMore_row (how : Int) (la lb : List Ac) (va vb : Value) (w : World) (hh1 : -9223372036854775808 ≤ how) (hh2 : how ≤ 9223372036854775807) (ha : ActsR w w.heap.size la va) (hb : ActsR w w.heap.size lb vb) (hE : Er w) :
    Calls Tryd.prog 5 #[.int .i64 how, va, vb] w fun e w' => e = .returned (.bool true) ∧ Kept w w' := by
  have HP : Hid _ := prog_any how la lb [] va vb (.slice none 0 0) 4 w hh1 hh2 ha hb (acts_nil _ _) (by omega) (by omega)
  have HE : Hid (Er w) := hE
  obtain ⟨a1, q1, rfl, x1, x2, -⟩ := ha.out
  obtain ⟨a2, q2, rfl, x3, x4, -⟩ := hb.out
  clear ha hb x1 x2 x3 x4 hE hh1 hh2
  go_enter Tryd.func5, Tryd.ntmps5
  go_wp2_with fail
  refine Calls.mono HP.out ?_
  rintro e w1 ⟨d, t, ad, nd, qd, at', nt, qt, rfl, HM⟩
  obtain ⟨hds, hts, hg, hk⟩ := HM.out
  have hlen : t.length = 2 := hg.just (.inr rfl)
  obtain ⟨t0, t1, rfl⟩ : ∃ t0 t1, t = [t0, t1] := by
    match t, hlen with
    | [t0, t1], _ => exact ⟨t0, t1, rfl⟩
  obtain ⟨_, _, et, hl1, hl2, hl3⟩ := hts.open
  injection et with e6 e7 e8
  obtain rfl : nt = 2 := e7
  subst e8
  have g1 : (1 : Int) ≤ (qt : Int) := by have : 2 ≤ qt := hl2; omega
  have g2 : (1 : Int) ≤ ((2 : Nat) : Int) := by omega
  have hok0 : ∀ s ∈ t0, Ps.Gd 2 s := (hg.ok t0 (by simp)).1
  have hok1 : ∀ s ∈ t1, Ps.Gd 2 s := (hg.ok t1 (by simp)).1
  have Ht0 : ∀ b ∈ [t0], ∀ s ∈ b, Ps.Gd 2 s := fun b hb => by rw [List.mem_singleton.1 hb]; exact hok0
  have Ht1 : ∀ b ∈ [t1], ∀ s ∈ b, Ps.Gd 2 s := fun b hb => by rw [List.mem_singleton.1 hb]; exact hok1
  have hlA := Ps.shown_len (e := 2) (by decide) d [t0] hg.dl.2 fun b hb => hg.ok b (by simp at hb; simp [hb])
  have hlB := Ps.shown_len (e := 2) (by decide) [] [t1] (fun x hx => by cases hx) fun b hb => hg.ok b (by simp at hb; simp [hb])
  have hlC := Ps.shown_len (e := 2) (by decide) d [t0, t1] hg.dl.2 hg.ok
  have hd8 := hg.dl.1
  simp only [List.length_cons, List.length_nil] at hlA hlB hlC
  obtain ⟨d1, u1, k1, oA, sA1, sA2⟩ := Ps.out_shown (e := 2) (by decide) d [t0] (by omega) hg.dl.2 (Ht0) (by omega) (by simp) (by simp)
  obtain ⟨d2, u2, k2, oB, sB1, sB2⟩ := Ps.out_shown (e := 2) (by decide) [] [t1] (by omega) (fun x hx => by cases hx) (Ht1) (by simp) (by simp) (by simp)
  obtain ⟨d3, u3, k3, oC, sC1, sC2⟩ := Ps.out_shown (e := 2) (by decide) d [t0, t1] (by omega) hg.dl.2 (fun b hb => (hg.ok b hb).1) (by omega) (by simp) (by simp)
  obtain ⟨x0, rfl⟩ : ∃ x0, u1 = [x0] := by
    have := Ps.len_of_map sA2
    match u1, this with
    | [x0], _ => exact ⟨x0, rfl⟩
  obtain ⟨y0, rfl⟩ : ∃ y0, u2 = [y0] := by
    have := Ps.len_of_map sB2
    match u2, this with
    | [x0], _ => exact ⟨x0, rfl⟩
  obtain ⟨z0, z1, rfl⟩ : ∃ z0 z1, u3 = [z0, z1] := by
    have := Ps.len_of_map sC2
    match u3, this with
    | [z0, z1], _ => exact ⟨z0, z1, rfl⟩
  simp only [List.map_cons, List.map_nil, List.cons.injEq, and_true] at sA2 sB2 sC2
  have same0 : St.sames z0 x0 = true := St.sames_strips _ _ (sC2.1.trans sA2.symm)
  have same1 : St.sames z1 y0 = true := St.sames_strips _ _ (sC2.2.trans sB2.symm)
  have sameD : Dc.sames d3 d = true := Dc.sames_strips _ _ sC1
  have HAB : Hid (Px.ba (Ps.shown d [t0]) ++ Px.ba (Ps.shown [] [t1]) = Px.ba (Ps.shown d [t0, t1])) := by
    show _ = _
    rw [Px.ba_app, Ps.shown_split]
  have SA : Hid (∀ W, Kept w1 W → Calls Tryd.prog 11 #[.agg #[.slice ad nd qd, .slice (cutAt at' 0 qt 1) 1 qt]] W fun r w' => r = .returned (.string (Px.ba (Ps.shown d [t0]))) ∧ Kept W w') :=
    fun W hW => showp_any 2 (by decide) d [t0] hg.dl.2 (Ht0) (by omega) W _ _ (hds.up (Nat.le_refl _) hW) (hts.head.up (Nat.le_refl _) hW)
  have SB : Hid (∀ W, Kept w1 W → Calls Tryd.prog 11 #[.agg #[.slice none 0 0, .slice (cutAt at' 1 qt 1) 1 (qt - 1)]] W fun r w' => r = .returned (.string (Px.ba (Ps.shown [] [t1]))) ∧ Kept W w') :=
    fun W hW => showp_any 2 (by decide) [] [t1] (fun x hx => by cases hx) (Ht1) (by omega) W _ _ (DsD.nil _ _) (hts.last.up (Nat.le_refl _) hW)
  have RA : Hid (∀ W, Kept w W → Calls Tryd.prog 6 #[.string (Px.ba (Ps.shown d [t0]))] W fun e w' => GotR (Px.ba (Ps.shown d [t0])) W (some (d1, [x0])) k1 e w') :=
    fun W hW => pread_any _ (by rw [Px.ba_size]; omega) W (HE.out.kept hW) _ _ oA
  have RB : Hid (∀ W, Kept w W → Calls Tryd.prog 6 #[.string (Px.ba (Ps.shown [] [t1]))] W fun e w' => GotR (Px.ba (Ps.shown [] [t1])) W (some (d2, [y0])) k2 e w') :=
    fun W hW => pread_any _ (by rw [Px.ba_size]; omega) W (HE.out.kept hW) _ _ oB
  have RC : Hid (∀ W, Kept w W → Calls Tryd.prog 6 #[.string (Px.ba (Ps.shown d [t0, t1]))] W fun e w' => GotR (Px.ba (Ps.shown d [t0, t1])) W (some (d3, [z0, z1])) k3 e w') :=
    fun W hW => pread_any _ (by rw [Px.ba_size]; omega) W (HE.out.kept hW) _ _ oC
  have S0 : Hid (∀ W va vb, StsIn W 0 W.heap.size z0 va → StsIn W 0 W.heap.size x0 vb → Calls Tryd.prog 12 #[va, vb] W fun e w' => e = .returned (.bool true) ∧ Kept W w') := fun W va vb h1 h2 => by
    have := rsameBlock_any z0 x0 W va vb h1 h2
    rwa [same0] at this
  have S1 : Hid (∀ W va vb, StsIn W 0 W.heap.size z1 va → StsIn W 0 W.heap.size y0 vb → Calls Tryd.prog 12 #[va, vb] W fun e w' => e = .returned (.bool true) ∧ Kept W w') := fun W va vb h1 h2 => by
    have := rsameBlock_any z1 y0 W va vb h1 h2
    rwa [same1] at this
  have SD : Hid (∀ W va, Kept w1 W → DsIn W 0 W.heap.size d3 va → Calls Tryd.prog 13 #[va, .slice ad nd qd] W fun e w' => e = .returned (.bool true) ∧ Kept W w') := fun W va hW h1 => by
    have := rsameDecls_any d3 d W va _ h1 (hds.up (Nat.le_refl _) hW)
    rwa [sameD] at this
  have KN : Hid (∀ W, Kept w W → Calls Tryd.prog 7 #[] W fun e w' => e = .returned (.bool true) ∧ Kept W w') := fun W hW => known_any W (HE.out.kept hW)
  have zA : (Px.ba (Ps.shown d [t0])).size ≤ 10000 := by rw [Px.ba_size]; omega
  have zB : (Px.ba (Ps.shown [] [t1])).size ≤ 10000 := by rw [Px.ba_size]; omega
  have HK : Hid (Kept w w1) := hk
  generalize Px.ba (Ps.shown d [t0]) = TA at *
  generalize Px.ba (Ps.shown [] [t1]) = TB at *
  generalize Px.ba (Ps.shown d [t0, t1]) = TC at *
  have ADD := addf TA TB (by omega)
  have hAB := HAB.out
  clear Ht0 Ht1 hl1 hl2 hl3 e6 hlen hds hts hg hk HP HM hok0 hok1 hlA hlB hlC hd8 oA oB oC sA1 sA2 sB1 sB2 sC1 sC2 same0 same1 sameD zA zB HAB
  go_wp2_with fail
  obtain ⟨W0, hW0⟩ : ∃ W, ((w1.alloc (.cells #[.slice ad nd qd, .slice at' 2 qt] 25)).alloc (.cells #[.slice ad nd qd, .slice (cutAt at' 0 qt 1) 1 qt] 25)).alloc (.cells #[.slice none 0 0, .slice (cutAt at' 1 qt 1) 1 (qt - 1)] 25) = W := ⟨_, rfl⟩
  have K1 : Hid (Kept w1 W0) := by rw [← hW0]; exact (((Kept.refl _).al _).al _).al _
  have z1 : (w1.alloc (.cells #[.slice ad nd qd, .slice at' 2 qt] 25)).heap.size = w1.heap.size + 1 := by simp
  have z2 : ((w1.alloc (.cells #[.slice ad nd qd, .slice at' 2 qt] 25)).alloc (.cells #[.slice ad nd qd, .slice (cutAt at' 0 qt 1) 1 qt] 25)).heap.size = w1.heap.size + 1 + 1 := by rw [World.size_alloc, z1]
  have p0 : W0.cell? ⟨w1.heap.size, 0, none⟩ = some (.slice ad nd qd) := by rw [← hW0]; exact (((Kept.refl _).al _).al _).cellS (cell_new _ _ _ rfl 0 _ rfl)
  have q0 : W0.cell? ⟨w1.heap.size + 1, 0, none⟩ = some (.slice ad nd qd) := by rw [← hW0]; exact ((Kept.refl _).al _).cellS (cell_new _ _ _ z1 0 _ rfl)
  have q1 : W0.cell? ⟨w1.heap.size + 1, 1, none⟩ = some (.slice (cutAt at' 0 qt 1) 1 qt) := by rw [← hW0]; exact ((Kept.refl _).al _).cellS (cell_new _ _ _ z1 1 _ rfl)
  have r0 : W0.cell? ⟨w1.heap.size + 1 + 1, 0, none⟩ = some (.slice none 0 0) := by rw [← hW0]; exact cell_new _ _ _ z2 0 _ rfl
  have r1 : W0.cell? ⟨w1.heap.size + 1 + 1, 1, none⟩ = some (.slice (cutAt at' 1 qt 1) 1 (qt - 1)) := by rw [← hW0]; exact cell_new _ _ _ z2 1 _ rfl
  clear z1 z2
  rw [hW0]
  clear hW0
  generalize cutAt at' 0 qt 1 = aA at *
  generalize cutAt at' 1 qt 1 = aB at *
  generalize qt - 1 = qB at *
  generalize w1.heap.size + 1 + 1 = B9 at *
  generalize w1.heap.size + 1 = B8 at *
  generalize w1.heap.size = B7 at *
  refine (SA.out _ K1.out).mono ?_
  rintro e w2 ⟨rfl, k2⟩
  have K2 : Hid (Kept W0 w2) := k2
  clear k2
  go_wp2_with fail
  refine (RA.out _ (HK.out.then (K1.out.then K2.out))).mono ?_
  rintro e w3 ⟨b1, m1, c1, b2, m2, c2, X, Y, E, rfl, H⟩
  obtain ⟨k3, -, hv⟩ := unhide H
  obtain ⟨rfl, rfl, rfl, hdx, htx⟩ := hv _ _ rfl
  obtain ⟨_, _, ex, -⟩ := htx.open
  injection ex with ex1 ex2 ex3
  obtain rfl : m2 = 1 := ex2
  have HX : Hid (TsIn w3 w2.heap.size w3.heap.size [x0] (.slice b2 1 c2)) := htx
  have K3 : Hid (Kept W0 w3) := K2.out.then k3
  have y0' := K3.out.cellS r0
  have y1' := K3.out.cellS r1
  have hz := block_lt_of_cell y0'
  have hz : B9 < w3.heap.size := hz
  clear k3 hv hdx htx H ex1 ex3 RA
  go_wp2_with fail
  clear y0' y1'
  refine (SB.out _ ((K1.out.then K3.out).al _)).mono ?_
  rintro e w4 ⟨rfl, k4⟩
  have K34 : Hid (Kept w3 w4) := ((Kept.refl w3).al _).then k4
  have x1 : w4.cell? ⟨w3.heap.size, 1, none⟩ = some (.slice b2 1 c2) := k4.cellS (cell_new _ _ _ rfl 1 _ rfl)
  clear k4
  go_wp2_with fail
  refine (RB.out _ (HK.out.then (K1.out.then (K3.out.then K34.out)))).mono ?_
  rintro e w5 ⟨b3, m3, c3, b4, m4, c4, X, Y, E, rfl, H⟩
  obtain ⟨k5, -, hv⟩ := unhide H
  obtain ⟨rfl, rfl, rfl, hdx, htx⟩ := hv _ _ rfl
  obtain ⟨_, _, ex, -⟩ := htx.open
  injection ex with ex1 ex2 ex3
  obtain rfl : m4 = 1 := ex2
  have HY : Hid (TsIn w5 w4.heap.size w5.heap.size [y0] (.slice b4 1 c4)) := htx
  have K35 : Hid (Kept w3 w5) := K34.out.then k5
  have K5 : Hid (Kept W0 w5) := K3.out.then K35.out
  have x1 := k5.cellS x1
  clear k5 hv hdx htx H ex1 ex3 RB
  obtain ⟨W6, hW6⟩ : ∃ W, w5.alloc (.cells #[.slice b3 m3 c3, .slice b4 1 c4] 25) = W := ⟨_, rfl⟩
  have K56 : Hid (Kept w5 W6) := by rw [← hW6]; exact (Kept.refl _).al _
  have K6 : Hid (Kept W0 W6) := K5.out.then K56.out
  have y1 : W6.cell? ⟨w5.heap.size, 1, none⟩ = some (.slice b4 1 c4) := by rw [← hW6]; exact cell_new _ _ _ rfl 1 _ rfl
  have x1 := K56.out.cellS x1
  have p0 := K6.out.cellS p0
  have q0 := K6.out.cellS q0
  have q1 := K6.out.cellS q1
  have r0 := K6.out.cellS r0
  have r1 := K6.out.cellS r1
  have KW6 : Hid (Kept w1 W6) := K1.out.then K6.out
  have SA6 : Hid (∀ W, Kept W6 W → Calls Tryd.prog 11 #[.agg #[.slice ad nd qd, .slice aA 1 qt]] W fun r w' => r = .returned (.string TA) ∧ Hid (Kept W6 w') ∧ Hid (Kept W w')) := fun W hW => (SA.out W (KW6.out.then hW)).mono fun r w' h => ⟨h.1, hW.then h.2, h.2⟩
  have SB6 : Hid (∀ W, Kept W6 W → Calls Tryd.prog 11 #[.agg #[.slice none 0 0, .slice aB 1 qB]] W fun r w' => r = .returned (.string TB) ∧ Hid (Kept W6 w') ∧ Hid (Kept W w')) := fun W hW => (SB.out W (KW6.out.then hW)).mono fun r w' h => ⟨h.1, hW.then h.2, h.2⟩
  have RC6 : Hid (∀ W, Kept W6 W → Calls Tryd.prog 6 #[.string TC] W fun e w' => GotR TC W (some (d3, [z0, z1])) k3 e w' ∧ Hid (Kept W6 w') ∧ Hid (Kept W w')) := fun W hW => (RC.out W ((HK.out.then KW6.out).then hW)).mono fun e w' h => by
    have h0 := h
    obtain ⟨b5, m5, c5, b6, m6, c6, X, Y, E, -, H⟩ := h
    exact ⟨h0, hW.then (unhide H).1, (unhide H).1⟩
  have SS : Hid (∀ w', Kept W6 w' → Hid (Kept W6 w') ∧ w'.cell? ⟨B8, 0, none⟩ = some (.slice ad nd qd) ∧ w'.cell? ⟨B8, 1, none⟩ = some (.slice aA 1 qt) ∧ w'.cell? ⟨B9, 0, none⟩ = some (.slice none 0 0) ∧ w'.cell? ⟨B9, 1, none⟩ = some (.slice aB 1 qB)) := fun w' KK => ⟨KK, KK.cellS q0, KK.cellS q1, KK.cellS r0, KK.cellS r1⟩
  clear SA SB RC
  go_upto_region 11 with fail
  clear hW6
  go_cut [16, 17, 18] (fun p x e wc => ∃ (bz : Nat) (b5 : Option Addr) (m5 c5 : Nat) (b6 : Option Addr) (c6 : Nat), p = .pointer (some ⟨bz, 0, none⟩) ∧ x = .complex .f64 0 0 ∧ e = .int .i64 0 ∧ wc.cell? ⟨bz, 0, none⟩ = some (.slice b5 m5 c5) ∧ wc.cell? ⟨bz, 1, none⟩ = some (.slice b6 2 c6) ∧
    Hid (Kept W6 wc ∧ DsIn wc 0 wc.heap.size d3 (.slice b5 m5 c5) ∧ TsIn wc 0 wc.heap.size [z0, z1] (.slice b6 2 c6)))
  case first =>
    go_region_held3 (fun w' => Hid (Kept W6 w') ∧ w'.cell? ⟨B8, 0, none⟩ = some (.slice ad nd qd) ∧ w'.cell? ⟨B8, 1, none⟩ = some (.slice aA 1 qt) ∧ w'.cell? ⟨B9, 0, none⟩ = some (.slice none 0 0) ∧ w'.cell? ⟨B9, 1, none⟩ = some (.slice aB 1 qB))
      (first
        | (refine SS.out _ ?_; repeat' first | exact hk3.out | exact hk2.out | exact hk1.out | exact Kept.refl _ | refine Kept.al ?_ _ | refine Kept.dr ?_ | refine Below.setCell ?_ ?_ _ | exact Nat.le_refl _ | exact hk1.out.size | exact hk2.out.size | exact hk3.out.size)
        | (refine SS.out _ ?_; repeat' first | exact hk2.out | exact hk1.out | exact Kept.refl _ | refine Kept.al ?_ _ | refine Kept.dr ?_)
        | (refine SS.out _ ?_; repeat' first | exact hk1.out | exact Kept.refl _ | refine Kept.al ?_ _ | refine Kept.dr ?_)
        | (refine SS.out _ ?_; repeat' first | exact Kept.refl _ | refine Kept.al ?_ _ | refine Kept.dr ?_))
      (first
        | (go_at_call_of 11 (Value.slice aA 1 qt); refine (SA6.out _ ?_).mono ?_; (repeat' first | exact Kept.refl _ | refine Kept.al ?_ _ | refine Kept.dr ?_); rintro e w7 ⟨rfl, hk1, kA⟩; try (have hb : BoxS w7 W6.heap.size [.slice none 0 0, .slice none 0 0] := (box_new W6.drew _ _ _).kept kA.out; have HB : Hid (BoxS w7 W6.heap.size [.slice none 0 0, .slice none 0 0]) := hb; have e0 := hb.cell 0 rfl; have e1 := hb.cell 1 rfl; have g0 := hb.fz 0; have g1 := hb.fz 1; have g2 := hb.lt; clear hb))
        | (go_at_call_of 11 (Value.slice aB 1 qB); refine (SB6.out _ ?_).mono ?_; (repeat' first | exact hk1.out | refine Kept.al ?_ _ | refine Kept.dr ?_); rintro e w8 ⟨rfl, hk2, kB⟩; first | (have hb : BoxS w8 W6.heap.size [.slice none 0 0, .slice none 0 0] := HB.out.kept kB.out; have HB : Hid (BoxS w8 W6.heap.size [.slice none 0 0, .slice none 0 0]) := hb; have e0 := hb.cell 0 rfl; have e1 := hb.cell 1 rfl; have g0 := hb.fz 0; have g1 := hb.fz 1; have g2 := hb.lt; clear hb) | (have hb : BoxS w8 w7.heap.size [.slice none 0 0, .slice none 0 0] := (box_new w7 _ _ _).kept kB.out; have HB : Hid (BoxS w8 w7.heap.size [.slice none 0 0, .slice none 0 0]) := hb; have e0 := hb.cell 0 rfl; have e1 := hb.cell 1 rfl; have g0 := hb.fz 0; have g1 := hb.fz 1; have g2 := hb.lt; clear hb) | skip)
        | (go_at_call 6; refine (RC6.out _ ?_).mono ?_; (repeat' first | exact hk2.out | refine Kept.al ?_ _ | refine Kept.dr ?_); rintro e w9 ⟨⟨b5, m5, c5, b6, m6, c6, X, Y, E, rfl, H⟩, hk3, kC⟩; first | (have hb : BoxS w9 W6.heap.size [.slice none 0 0, .slice none 0 0] := HB.out.kept kC.out; have HB : Hid (BoxS w9 W6.heap.size [.slice none 0 0, .slice none 0 0]) := hb; have e0 := hb.cell 0 rfl; have e1 := hb.cell 1 rfl; have g0 := hb.fz 0; have g1 := hb.fz 1; have g2 := hb.lt; clear hb) | (have hb : BoxS w9 w7.heap.size [.slice none 0 0, .slice none 0 0] := HB.out.kept kC.out; have HB : Hid (BoxS w9 w7.heap.size [.slice none 0 0, .slice none 0 0]) := hb; have e0 := hb.cell 0 rfl; have e1 := hb.cell 1 rfl; have g0 := hb.fz 0; have g1 := hb.fz 1; have g2 := hb.lt; clear hb) | (have hb : BoxS w9 w8.heap.size [.slice none 0 0, .slice none 0 0] := (box_new w8 _ _ _).kept kC.out; have HB : Hid (BoxS w9 w8.heap.size [.slice none 0 0, .slice none 0 0]) := hb; have e0 := hb.cell 0 rfl; have e1 := hb.cell 1 rfl; have g0 := hb.fz 0; have g1 := hb.fz 1; have g2 := hb.lt; clear hb) | skip))
    all_goals
      obtain ⟨_, -, hv⟩ := unhide H
      obtain ⟨rfl, rfl, rfl, hdx, htx⟩ := hv _ _ rfl
      obtain ⟨_, _, ex, -⟩ := htx.open
      injection ex with ex1 ex2 ex3
      obtain rfl : m6 = 2 := ex2
      have HDX : Hid _ := hdx
      have HTX : Hid _ := htx
      clear hv hdx htx H ex1 ex3
      go_wp2_with fail
      go_meet
    all_goals first
      | exact ⟨_, _, _, _, _, _, rfl, rfl, rfl, fin_z HB.out (Nat.le_refl _) (by first | assumption | simp) hk3.out HDX.out HTX.out rfl⟩
      | exact ⟨_, _, _, _, _, _, rfl, rfl, rfl, fin_z HB.out hk1.out.size (by first | assumption | simp) hk3.out HDX.out HTX.out rfl⟩
      | exact ⟨_, _, _, _, _, _, rfl, rfl, rfl, fin_z HB.out hk2.out.size (by first | assumption | simp) hk3.out HDX.out HTX.out rfl⟩
      | exact ⟨_, _, _, _, _, _, rfl, rfl, rfl, fin_z' hk3.out HDX.out HTX.out rfl⟩
  case rest =>
    obtain ⟨bz, b5, m5, c5, b6, c6, rfl, rfl, rfl, zc0, zc1, HZ⟩ := hcut
    have x1 := HZ.out.1.cellS x1
    have y1 := HZ.out.1.cellS y1
    have p0 := HZ.out.1.cellS p0
    have KWC : Hid (Kept w1 wc) := KW6.out.then HZ.out.1
    obtain ⟨zb, zo, a0, n0, qq0, rfl, -, -, -, zr0, zs0⟩ := HZ.out.2.2.item (StaysD.refl _ _) 0 (by simp)
    obtain ⟨zb', zo', a5, n5, qq1, ez, -, -, -, zr1, zs1⟩ := HZ.out.2.2.item (StaysD.refl _ _) 1 (by simp)
    injection ez with ez
    injection ez with ez1 ez2
    subst ez1 ez2
    have HXc : TsIn wc 0 wc.heap.size [x0] (.slice b2 1 c2) := HX.out.up (Nat.le_refl _) (K35.out.then (K56.out.then HZ.out.1))
    obtain ⟨xb, xo, a6, n6, qq2, rfl, -, -, -, xr0, xs0⟩ := HXc.item (StaysD.refl _ _) 0 (by simp)
    have HYc : TsIn wc 0 wc.heap.size [y0] (.slice b4 1 c4) := HY.out.up (Nat.le_refl _) (K56.out.then HZ.out.1)
    obtain ⟨yb, yo, a7, n7, qq3, rfl, -, -, -, yr0, ys0⟩ := HYc.item (StaysD.refl _ _) 0 (by simp)
    have zr0 : wc.cell? ⟨zb, zo, none⟩ = some (.slice a0 n0 qq0) := zr0
    have zr1 : wc.cell? ⟨zb, zo + 1, none⟩ = some (.slice a5 n5 qq1) := zr1
    have xr0 : wc.cell? ⟨xb, xo, none⟩ = some (.slice a6 n6 qq2) := xr0
    have yr0 : wc.cell? ⟨yb, yo, none⟩ = some (.slice a7 n7 qq3) := yr0
    have C0 : Hid (∀ W, Kept wc W → Calls Tryd.prog 12 #[.slice a0 n0 qq0, .slice a6 n6 qq2] W fun e w' => e = .returned (.bool true) ∧ Kept W w') := fun W hW => S0.out W _ _ (zs0.up (Nat.le_refl _) hW) (xs0.up (Nat.le_refl _) hW)
    have C1 : Hid (∀ W, Kept wc W → Calls Tryd.prog 12 #[.slice a5 n5 qq1, .slice a7 n7 qq3] W fun e w' => e = .returned (.bool true) ∧ Kept W w') := fun W hW => S1.out W _ _ (zs1.up (Nat.le_refl _) hW) (ys0.up (Nat.le_refl _) hW)
    have C2 : Hid (∀ W, Kept wc W → Calls Tryd.prog 13 #[.slice b5 m5 c5, .slice ad nd qd] W fun e w' => e = .returned (.bool true) ∧ Kept W w') := fun W hW => SD.out W _ (KWC.out.then hW) (HZ.out.2.1.up (Nat.le_refl _) hW)
    clear zs0 zs1 xs0 ys0 HXc HYc S0 S1 SD SA6 SB6 RC6 SS q0 q1 r0 r1
    go_wp2_with fail
    refine (KN.out _ (HK.out.then KWC.out)).mono ?_
    rintro e w10 ⟨rfl, k10⟩
    have K10 : Hid (Kept wc w10) := k10
    have zc0 := k10.cellS zc0
    have zc1 := k10.cellS zc1
    have x1 := k10.cellS x1
    have y1 := k10.cellS y1
    have p0 := k10.cellS p0
    have zr0 := k10.cellS zr0
    have zr1 := k10.cellS zr1
    have xr0 := k10.cellS xr0
    have yr0 := k10.cellS yr0
    have D0 : Hid (∀ W, Kept w10 W → Calls Tryd.prog 12 #[.slice a0 n0 qq0, .slice a6 n6 qq2] W fun e w' => e = .returned (.bool true) ∧ Hid (Kept w10 w')) := fun W hW => (C0.out W (K10.out.then hW)).mono fun e w' h => ⟨h.1, hW.then h.2⟩
    have D1 : Hid (∀ W, Kept w10 W → Calls Tryd.prog 12 #[.slice a5 n5 qq1, .slice a7 n7 qq3] W fun e w' => e = .returned (.bool true) ∧ Hid (Kept w10 w')) := fun W hW => (C1.out W (K10.out.then hW)).mono fun e w' h => ⟨h.1, hW.then h.2⟩
    have D2 : Hid (∀ W, Kept w10 W → Calls Tryd.prog 13 #[.slice b5 m5 c5, .slice ad nd qd] W fun e w' => e = .returned (.bool true) ∧ Hid (Kept w10 w')) := fun W hW => (C2.out W (K10.out.then hW)).mono fun e w' h => ⟨h.1, hW.then h.2⟩
    have SS : Hid (∀ w', Kept w10 w' → Hid (Kept w10 w') ∧ w'.cell? ⟨bz, 0, none⟩ = some (.slice b5 m5 c5) ∧ w'.cell? ⟨bz, 1, none⟩ = some (.slice (some ⟨zb, zo, none⟩) 2 c6) ∧ w'.cell? ⟨w3.heap.size, 1, none⟩ = some (.slice (some ⟨xb, xo, none⟩) 1 c2) ∧ w'.cell? ⟨w5.heap.size, 1, none⟩ = some (.slice (some ⟨yb, yo, none⟩) 1 c4) ∧ w'.cell? ⟨B7, 0, none⟩ = some (.slice ad nd qd) ∧ w'.cell? ⟨zb, zo, none⟩ = some (.slice a0 n0 qq0) ∧ w'.cell? ⟨zb, zo + 1, none⟩ = some (.slice a5 n5 qq1) ∧ w'.cell? ⟨xb, xo, none⟩ = some (.slice a6 n6 qq2) ∧ w'.cell? ⟨yb, yo, none⟩ = some (.slice a7 n7 qq3)) :=
      fun w' KK => ⟨KK, KK.cellS zc0, KK.cellS zc1, KK.cellS x1, KK.cellS y1, KK.cellS p0, KK.cellS zr0, KK.cellS zr1, KK.cellS xr0, KK.cellS yr0⟩
    clear k10 C0 C1 C2
    go_wp2_with fail
    go_region_held3 (fun w' => Hid (Kept w10 w') ∧ w'.cell? ⟨bz, 0, none⟩ = some (.slice b5 m5 c5) ∧ w'.cell? ⟨bz, 1, none⟩ = some (.slice (some ⟨zb, zo, none⟩) 2 c6) ∧ w'.cell? ⟨w3.heap.size, 1, none⟩ = some (.slice (some ⟨xb, xo, none⟩) 1 c2) ∧ w'.cell? ⟨w5.heap.size, 1, none⟩ = some (.slice (some ⟨yb, yo, none⟩) 1 c4) ∧ w'.cell? ⟨B7, 0, none⟩ = some (.slice ad nd qd) ∧ w'.cell? ⟨zb, zo, none⟩ = some (.slice a0 n0 qq0) ∧ w'.cell? ⟨zb, zo + 1, none⟩ = some (.slice a5 n5 qq1) ∧ w'.cell? ⟨xb, xo, none⟩ = some (.slice a6 n6 qq2) ∧ w'.cell? ⟨yb, yo, none⟩ = some (.slice a7 n7 qq3))
      (first
        | exact SS.out _ hk6.out
        | exact SS.out _ hk5.out
        | exact SS.out _ hk4.out
        | exact SS.out _ ((Kept.refl w10).dr))
      (first
        | (go_at_call_of 12 (Value.slice a0 n0 qq0); refine (D0.out _ ((Kept.refl w10).dr)).mono ?_; rintro e w11 ⟨rfl, hk4⟩)
        | (go_at_call_of 12 (Value.slice a5 n5 qq1); refine (D1.out _ hk4.out).mono ?_; rintro e w12 ⟨rfl, hk5⟩)
        | (go_at_call 13; refine (D2.out _ hk5.out).mono ?_; rintro e w13 ⟨rfl, hk6⟩))
    have KF : Hid (Kept w w13) := HK.out.then (KWC.out.then (K10.out.then hk6.out))
    go_wp2_with fail
    go_ret
    exact ⟨rfl, KF.out⟩
#print axioms parseMore_row
end Go.Proofs.YteaopephdjoegaaDoor
