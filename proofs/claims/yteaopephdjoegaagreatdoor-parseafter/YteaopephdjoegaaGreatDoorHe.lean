/- What the statements' maker of expressions answers: some expression, in memory of its own. -/
import Derived.Test.YteaopephdjoegaaGreatDoorHd
import Derived.Test.YteaopephdjoegaaGreatDoorXs
import Derived.Test.YteaopephdjoegaaGreatDoorPaB
import Derived.Test.YteaopephdjoegaaGreatDoorPlB
namespace Go.Proofs.YteaopephdjoegaaGreatDoor
open Go.RowKit
namespace Px
/-- A short expression: its text and its depth are bounded by its parts. -/
structure Sx (e : Ex) : Prop where
  wf : Wf e
  len : (T e 4).length ≤ 6 * e.size
  deep : D e 4 ≤ e.size
theorem Sx.num (n : Nat) (h : n ≤ 9) : Sx (numE n) := by
  refine ⟨.num n (by omega), ?_, ?_⟩
  · have e : T (numE n) 4 = Lib.itoa n := by show tpw _ (tb (numE n)) 4 = _; rw [tb_num]; rfl
    rw [e]
    have h1 : ∀ n : Nat, n ≤ 9 → (Lib.itoa n).length ≤ 6 := by
      intro n hn
      match n, hn with
      | 0, _ | 1, _ | 2, _ | 3, _ | 4, _ | 5, _ | 6, _ | 7, _ | 8, _ | 9, _ => decide +kernel
    have h2 := h1 n h
    have h3 := Ex.size_pos (numE n)
    omega
  · have e : D (numE n) 4 = 0 := by show dpw _ (dp (numE n)) 4 = _; rw [dp_num]; rfl
    rw [e]; omega
theorem Sx.name (t : List UInt8) (h : isNm t = true) (hl : t.length = 1) : Sx (nameE t) := by
  refine ⟨.name t h, ?_, ?_⟩
  · have e : T (nameE t) 4 = t := by show tpw _ (tb (nameE t)) 4 = _; rw [tb_name]; rfl
    have h3 := Ex.size_pos (nameE t)
    rw [e]; omega
  · have e : D (nameE t) 4 = 0 := by show dpw _ (dp (nameE t)) 4 = _; rw [dp_name]; rfl
    rw [e]; omega
theorem Sx.minus {y : Ex} (h : Sx y) : Sx (minusE y) := by
  have hz : (minusE y).size = 1 + y.size := by unfold minusE; rw [Ex.size_eq]; show 1 + Ex.sizes [y] = _; simp [Ex.sizes]
  refine ⟨.minus y h.wf, ?_, ?_⟩
  · have e : T (minusE y) 4 = 45 :: T y 4 := by show tpw _ (tb (minusE y)) 4 = _; rw [tb_minus]; rfl
    have := h.len
    rw [e, hz, List.length_cons]; omega
  · have e : D (minusE y) 4 = 1 + D y 4 := by show dpw _ (dp (minusE y)) 4 = _; rw [dp_minus]; rfl
    have := h.deep
    rw [e, hz]; omega
theorem Sx.bin (k : Nat) {y z : Ex} (h4 : 4 ≤ k) (h10 : k ≤ 10) (hy : Sx y) (hz : Sx z) : Sx (binE k y z) := by
  have hs : (binE k y z).size = 1 + (y.size + z.size) := by unfold binE; rw [Ex.size_eq]; show 1 + Ex.sizes [y, z] = _; simp [Ex.sizes]
  obtain ⟨r1, r2⟩ := rnk_bin k h4 h10
  have a1 := (T_low y (l := max (rnk k) 2) (l' := 4) (by omega))
  have a2 := (T_low z (l := rnk k + 1) (l' := 4) (by omega))
  have b1 := hy.len
  have b2 := hz.len
  have c1 := hy.deep
  have c2 := hz.deep
  have hsg : ∀ k : Nat, 4 ≤ k → k ≤ 10 → (sgn (k : Int)).length ≤ 2 := seven (by decide) (by decide) (by decide) (by decide) (by decide) (by decide) (by decide)
  have hg := hsg k h4 h10
  have tl : (tb (binE k y z)).length ≤ 6 * y.size + 6 * z.size + 4 := by
    rw [tb_bin k y z h4]
    simp only [List.length_append, List.length_cons]
    omega
  have dl : dp (binE k y z) ≤ y.size + z.size := by rw [dp_bin]; omega
  refine ⟨.bin k y z h4 h10 hy.wf hz.wf, ?_, ?_⟩
  · show (tpw _ (tb (binE k y z)) 4).length ≤ _
    rw [hs]; unfold tpw; split
    · simp only [List.length_cons, List.length_append, List.length_nil]; omega
    · omega
  · show dpw _ (dp (binE k y z)) 4 ≤ _
    rw [hs]; unfold dpw; split <;> omega
theorem Sx.ge {e : Ex} (h : Sx e) (hs : e.size ≤ 7) : Ps.GE e := by
  have a := T_low e (l := 1) (l' := 4) (by omega)
  have b := h.len
  have c := h.deep
  exact ⟨h.wf, by omega, by omega⟩
end Px
attribute [local go_sem] run_store_complex

/-! The walk's own rules for the cuts here: one way, whatever the capacity. -/
section
variable (w : World) (a : Option Addr) (n cap : Nat)
set_option maxRecDepth 100000 in
theorem cut_i1 (h1 : (1 : Int) ≤ n) : (Instr.sliceAt 45 (.slice a n cap) (some (.int .i64 1)) none none).run Tryz.prog w = .ok (.slice (cutAt a 1 cap 1) (n - 1) (cap - 1)) w :=
  run_cut_l Tryz.underlying45 rfl Tryz.sizeOf3 a n cap 1 (by omega) w
set_option maxRecDepth 100000 in
theorem cut_im (m : Int) (h0 : 0 ≤ m) (h1 : m ≤ n) : (Instr.sliceAt 45 (.slice a n cap) (some (.int .i64 m)) none none).run Tryz.prog w = .ok (.slice (cutAt a m.toNat cap 1) (n - m.toNat) (cap - m.toNat)) w := by
  obtain ⟨k, rfl⟩ := Int.eq_ofNat_of_zero_le h0
  exact run_cut_l Tryz.underlying45 rfl Tryz.sizeOf3 a n cap k (by omega) w
set_option maxRecDepth 100000 in
theorem cut_i1m (m : Int) (h0 : 1 ≤ m) (h1 : m ≤ cap) : (Instr.sliceAt 45 (.slice a n cap) (some (.int .i64 1)) (some (.int .i64 m)) none).run Tryz.prog w = .ok (.slice (cutAt a 1 cap 1) (m.toNat - 1) (cap - 1)) w := by
  obtain ⟨k, rfl⟩ := Int.eq_ofNat_of_zero_le (by omega : 0 ≤ m)
  exact run_cut_lh Tryz.underlying45 rfl Tryz.sizeOf3 a n cap 1 k (by omega) (by omega) w
set_option maxRecDepth 100000 in
theorem cut_i3 (h1 : (3 : Int) ≤ cap) : (Instr.sliceAt 45 (.slice a n cap) none (some (.int .i64 3)) none).run Tryz.prog w = .ok (.slice (cutAt a 0 cap 1) 3 cap) w :=
  run_cut_h Tryz.underlying45 rfl Tryz.sizeOf3 a n cap 3 (by omega) w
set_option maxRecDepth 100000 in
theorem cut_a1 (h1 : (1 : Int) ≤ n) : (Instr.sliceAt 22 (.slice a n cap) (some (.int .i64 1)) none none).run Tryz.prog w = .ok (.slice (cutAt a 1 cap 5) (n - 1) (cap - 1)) w :=
  run_cut_l Tryz.underlying22 rfl Tryz.sizeOf111 a n cap 1 (by omega) w
set_option maxRecDepth 100000 in
theorem cut_a16 (h1 : (16 : Int) ≤ cap) : (Instr.sliceAt 22 (.slice a n cap) none (some (.int .i64 16)) none).run Tryz.prog w = .ok (.slice (cutAt a 0 cap 5) 16 cap) w :=
  run_cut_h Tryz.underlying22 rfl Tryz.sizeOf111 a n cap 16 (by omega) w
end
attribute [local go_sem ↓] cut_i1 cut_im cut_i1m

/-- What Expr leaves. -/
def MadeE (w : World) (n : Nat) (r : Ending) (w' : World) : Prop :=
  ∃ (e : Ex) (v : Value), r = .returned (e.val v) ∧ ExsIn w' w.heap.size w'.heap.size e.of v ∧ (e.size ≤ 2 * n + 1 ∧ Px.Sx e) ∧ Kept w w'

theorem made_res {w Wf : World} {e : Ex} {a : Option Addr} {m q : Nat} (tmps : Array Value) (hp : tmps.getD 4 undef = .pointer (some ⟨w.heap.size, 0, none⟩)) (hr : Wf.rangeAt w.heap.size 0 (e.cells (.slice a m q))) :
    (results Tryz.f75 tmps).run Tryz.prog Wf = .ok (e.val (.slice a m q)) Wf :=
  results_cell_mid (P := Tryz.prog) Tryz.results75 _ _ w.heap.size 0 _ _ hp hr Tryz.underlying79 rfl esizeEx

def PHe (n : Nat) : Prop := ∀ (l : List Int) (w : World) (v : Value) (deep : Int), l.length ≤ n → IntsR w w.heap.size l v → l.length ≤ 1000 → 0 ≤ deep → deep ≤ 1000000 - n →
  Calls Tryz.prog 75 #[v, .int .i64 deep] w fun r w' => MadeE w l.length r w'

set_option maxRecDepth 100000 in
set_option maxHeartbeats 2000000 in
theorem expr_of (n : Nat) (H : ∀ m, m < n → PHe m) : PHe n := by
  intro l w v deep hn hi hl hd hd2
  have HA : Hid _ := hi
  have HH : Hid (∀ m, m < n → PHe m) := H
  obtain ⟨a, cap, rfl, hc1, hc2, hcell, hrng⟩ := hi.out
  by_cases h0 : l.length = 0
  · clear H hi hcell hrng
    have e0 : ((l.length : Int) == 0) = true := by rw [h0]; rfl
    go_enter Tryz.func75, Tryz.ntmps75
    go_wp2_with fail
    refine bodyPost_ret (v := .agg #[.int .i64 1, .int .i64 1, .string ⟨#[]⟩, .slice none 0 0]) (by simp [results, Tryz.results75, go_sem]) rfl ⟨.mk 1 1 ⟨#[]⟩ [], _, rfl, ExsD.nil _ _, ⟨?_, Px.Sx.num 1 (by omega)⟩, (Kept.refl _).al _⟩
    rw [Ex.size_eq]; show 1 + Ex.sizes [] ≤ _; simp [Ex.sizes]
  have e0 : ((l.length : Int) == 0) = false := by rw [beq_eq_false_iff_ne]; omega
  obtain ⟨b, o, rfl, hb, c0⟩ := hcell 0 (by omega)
  obtain ⟨x, hx⟩ : ∃ x, l[0] = x := ⟨_, rfl⟩
  rw [hx] at c0
  obtain ⟨x1, x2⟩ := hrng x (by rw [← hx]; exact List.getElem_mem _)
  obtain ⟨k, hk, -, hpk⟩ := pick_nat x 16 (by omega) (by omega)
  have PK : Hid (∀ w, Calls Tryz.prog 16 #[.int .i64 x, .int .i64 16] w fun e w' => e = .returned (.int .i64 (k : Int)) ∧ w' = w) := hpk
  have hpos : (0 : Int) < (l.length : Int) := by omega
  have HL0 : Hid (l.length ≠ 0) := h0
  clear H hi hcell hrng hx hpk h0
  rw [Nat.add_zero] at c0
  by_cases hleaf : k < 5 ∨ 5 < deep
  · obtain ⟨s, HT, hs⟩ : ∃ s : ByteArray, Hid (∃ t, (Px.isNm t = true ∧ t.length = 1) ∧ s = Px.ba t) ∧ ∀ w, Calls Tryz.prog 53 #[.int .i64 (x.tdiv 16)] w fun e w' => e = .returned (.string s) ∧ w' = w := by
      obtain ⟨t, ht, hs⟩ := plain_any (x.tdiv 16)
      exact ⟨Px.ba t, ⟨t, ht, rfl⟩, hs⟩
    have PP : Hid (∀ w, Calls Tryz.prog 53 #[.int .i64 (x.tdiv 16)] w fun e w' => e = .returned (.string s) ∧ w' = w) := hs
    clear hs
    by_cases hk5 : k < 5
    all_goals
      first | (have g5 : (k : Int) < 5 := by omega) | (have g5 : decide ((k : Int) < 5) = false := decide_eq_false (by omega); have g6 : 5 < deep := by omega)
      clear hleaf
      go_enter Tryz.func75, Tryz.ntmps75
      go_wp2_with fail
      refine (PK.out _).mono ?_
      rintro e w' ⟨rfl, rfl⟩
      go_wp2_with fail
      refine (PP.out _).mono ?_
      rintro e w' ⟨rfl, rfl⟩
      go_wp2_with fail
      refine bodyPost_ret (v := .agg #[.int .i64 2, .int .i64 0, .string s, .slice none 0 0]) (by simp [results, Tryz.results75, go_sem]) rfl ⟨.mk 2 0 s [], _, rfl, ExsD.nil _ _, ⟨?_, by obtain ⟨t, ⟨h1, h2⟩, rfl⟩ := HT.out; exact Px.Sx.name t h1 h2⟩, (Kept.refl _).al _⟩
      rw [Ex.size_eq]; show 1 + Ex.sizes [] ≤ _; simp [Ex.sizes]
  have g5 : decide ((k : Int) < 5) = false := decide_eq_false (by omega)
  have g6 : ¬ 5 < deep := by omega
  by_cases hk8 : k < 8
  · have g8 : (k : Int) < 8 := by omega
    obtain ⟨p, hp, -, hpp⟩ := pick_nat (x.tdiv 16) 5 (by omega) (by omega)
    have PP : Hid (∀ w, Calls Tryz.prog 16 #[.int .i64 (x.tdiv 16), .int .i64 5] w fun e w' => e = .returned (.int .i64 (p : Int)) ∧ w' = w) := hpp
    clear hleaf hpp
    go_enter Tryz.func75, Tryz.ntmps75
    go_wp2_with fail
    refine (PK.out _).mono ?_
    rintro e w' ⟨rfl, rfl⟩
    go_wp2_with fail
    refine (PP.out _).mono ?_
    rintro e w' ⟨rfl, rfl⟩
    go_wp2_with fail
    refine bodyPost_ret (v := .agg #[.int .i64 1, .int .i64 p, .string ⟨#[]⟩, .slice none 0 0]) (by simp [results, Tryz.results75, go_sem]) rfl ⟨.mk 1 p ⟨#[]⟩ [], _, rfl, ExsD.nil _ _, ⟨?_, Px.Sx.num p (by omega)⟩, (Kept.refl _).al _⟩
    rw [Ex.size_eq]; show 1 + Ex.sizes [] ≤ _; simp [Ex.sizes]
  have g8 : decide ((k : Int) < 8) = false := decide_eq_false (by omega)
  obtain ⟨W0, hW0⟩ : ∃ W0, w.alloc (.cells #[.int .i64 0, .int .i64 0, .string ⟨#[]⟩, .slice none 0 0] 79) = W0 := ⟨_, rfl⟩
  have HW0 : Hid (Kept w W0 ∧ W0.heap.size = w.heap.size + 1 ∧ W0.there w.heap.size 0 4 ∧ W0.cell? ⟨w.heap.size, 0, none⟩ = some (.int .i64 0) ∧ W0.cell? ⟨w.heap.size, 1, none⟩ = some (.int .i64 0) ∧ W0.cell? ⟨w.heap.size, 2, none⟩ = some (.string ⟨#[]⟩) ∧ W0.cell? ⟨w.heap.size, 3, none⟩ = some (.slice none 0 0) ∧ ∀ j, W0.frozen? ⟨w.heap.size, j, none⟩ = false) := by
    rw [← hW0]
    refine ⟨(Kept.refl _).al _, by simp, ?_, by simp, by simp, by simp, by simp, by simp⟩
    exact there_of 4 (fun j hj => by
      match j, hj with
      | 0, _ => exact ⟨.int .i64 0, by simp⟩
      | 1, _ => exact ⟨.int .i64 0, by simp⟩
      | 2, _ => exact ⟨.string ⟨#[]⟩, by simp⟩
      | 3, _ => exact ⟨.slice none 0 0, by simp⟩) (by simp)
  have c0w : W0.cell? ⟨b, o, none⟩ = some (.int .i64 x) := HW0.out.1.cellS c0
  by_cases hk88 : k = 8
  · subst hk88
    have PE : Hid (∀ W, Kept W0 W → Calls Tryz.prog 75 #[.slice (cutAt (some ⟨b, o, none⟩) 1 cap 1) (l.length - 1) (cap - 1), .int .i64 (deep + 1)] W fun r w' => ∃ (e1 : Ex) (a1 : Option Addr) (n1 q1 : Nat), r = .returned (.agg #[.int .i64 e1.kind, .int .i64 e1.n, .string e1.name, .slice a1 n1 q1]) ∧ Hid (ExsIn w' W.heap.size w'.heap.size e1.of (.slice a1 n1 q1) ∧ (e1.size ≤ 2 * (l.length - 1) + 1 ∧ Px.Sx e1) ∧ Kept W w' ∧ Kept W0 w') ∧
        w'.cell? ⟨w.heap.size, 0, none⟩ = some (.int .i64 0) ∧ w'.cell? ⟨w.heap.size, 1, none⟩ = some (.int .i64 0) ∧ w'.cell? ⟨w.heap.size, 2, none⟩ = some (.string ⟨#[]⟩) ∧ w'.cell? ⟨w.heap.size, 3, none⟩ = some (.slice none 0 0) ∧ ∀ j, w'.frozen? ⟨w.heap.size, j, none⟩ = false) := by
      intro W hW
      have h0 := HL0.out
      have hcut := (HA.out.kept (HW0.out.1.then hW)).cut 1 l.length (by omega) (Nat.le_refl _)
      have hlen : ((l.take l.length).drop 1).length = l.length - 1 := by simp
      have := HH.out (n - 1) (by omega) ((l.take l.length).drop 1) W _ (deep + 1) (by omega) (hcut.mono (Nat.le_trans HW0.out.1.size hW.size)) (by omega) (by omega) (by omega)
      refine this.mono ?_
      rintro r w1 ⟨e1, v1, rfl, h1, h2, h3⟩
      obtain ⟨a1, n1, q1, rfl⟩ := h1.form
      have KK : Kept W0 w1 := hW.then h3
      obtain ⟨_, hz, _, z0, z1, z2, z3, zf⟩ := HW0.out
      exact ⟨e1, a1, n1, q1, rfl, ⟨h1, by rw [hlen] at h2; exact h2, h3, KK⟩, KK.cellS z0, KK.cellS z1, KK.cellS z2, KK.cellS z3, fun j => (KK.frozen (by simp; omega)).trans (zf j)⟩
    clear hleaf
    go_enter Tryz.func75, Tryz.ntmps75
    go_wp2_with fail
    refine (PK.out _).mono ?_
    rintro e w' ⟨rfl, hw'⟩
    obtain rfl : W0 = w' := hw'.symm
    clear hw'
    have h1n : (1 : Int) ≤ (l.length : Int) := by omega
    go_wp2_with fail
    refine (PE.out _ (Kept.refl _)).mono ?_
    rintro r w1 ⟨e1, a1, n1, q1, rfl, HV, z0, z1, z2, z3, zf⟩
    have hzw : w.heap.size < w1.heap.size := block_lt_of_cell z0
    go_wp2_with fail
    have HT : w1.there w.heap.size 0 4 := there_of 4 (fun j hj => by
      match j, hj with
      | 0, _ => exact ⟨_, z0⟩
      | 1, _ => exact ⟨_, z1⟩
      | 2, _ => exact ⟨_, z2⟩
      | 3, _ => exact ⟨_, z3⟩) zf
    obtain ⟨f1, f2, f3, f4, f5⟩ := made_fin (cs := (Ex.mk 3 0 ⟨#[]⟩ [e1]).cells (.slice (some ⟨w1.heap.size, 0, none⟩) 1 1)) (HW0.out.1.then HV.out.2.2.2) HT rfl (.cells #[.int .i64 e1.kind, .int .i64 e1.n, .string e1.name, .slice a1 n1 q1] 79)
    refine bodyPost_ret (v := (Ex.mk 3 0 ⟨#[]⟩ [e1]).val (.slice (some ⟨w1.heap.size, 0, none⟩) 1 1)) (w := ((w1.setCells w.heap.size 0 ((Ex.mk 3 0 ⟨#[]⟩ [e1]).cells (.slice (some ⟨w1.heap.size, 0, none⟩) 1 1))).alloc (.cells #[.int .i64 e1.kind, .int .i64 e1.n, .string e1.name, .slice a1 n1 q1] 79))) (made_res _ rfl f2) rfl ⟨_, _, rfl, ?_, ⟨?_, ?_⟩, f1⟩
    · refine ExsD.one ⟨by omega, by omega⟩ f3 ?_
      have h2 := HW0.out.2.1
      exact ((HV.out.1.mono (Rng.up (by omega) (Nat.le_refl _))).stays f5).mono (Rng.up (by omega) (by omega))
    · have := HV.out.2.1.1
      have := HL0.out
      rw [Ex.size_eq]; show 1 + Ex.sizes [e1] ≤ _; simp [Ex.sizes]; omega
    · exact Px.Sx.minus HV.out.2.1.2
  · obtain ⟨p, hp, -, hpp⟩ := pick_nat (x.tdiv 16) 7 (by omega) (by omega)
    have PP : Hid (∀ w, Calls Tryz.prog 16 #[.int .i64 (x.tdiv 16), .int .i64 7] w fun e w' => e = .returned (.int .i64 (p : Int)) ∧ w' = w) := hpp
    have g88 : ((k : Int) == 8) = false := by rw [beq_eq_false_iff_ne]; omega
    clear hleaf hpp
    have h1n : (1 : Int) ≤ (l.length : Int) := by omega
    go_enter Tryz.func75, Tryz.ntmps75
    go_wp2_with fail
    refine (PK.out _).mono ?_
    rintro e w' ⟨rfl, hw'⟩
    obtain rfl : W0 = w' := hw'.symm
    clear hw'
    go_wp2_with fail
    refine (PP.out _).mono ?_
    rintro e w' ⟨rfl, hw'⟩
    obtain rfl : W0 = w' := hw'.symm
    clear hw'
    go_wp2_with fail
    obtain ⟨m, hm⟩ : ∃ m : Nat, m = 1 + l.length / 2 := ⟨_, rfl⟩
    have HM : Hid (m = 1 + l.length / 2) := hm
    have hml : m ≤ l.length := by have := HL0.out; omega
    have hm1 : 1 ≤ m := by omega
    have hmi : (1 : Int) + (l.length : Int) / 2 = (m : Int) := by omega
    have POST : Hid (∀ W w1 : World, Kept W0 W → Kept W w1 → Kept W0 w1 ∧ w1.cell? ⟨w.heap.size, 0, none⟩ = some (.int .i64 0) ∧ w1.cell? ⟨w.heap.size, 1, none⟩ = some (.int .i64 0) ∧ w1.cell? ⟨w.heap.size, 2, none⟩ = some (.string ⟨#[]⟩) ∧ w1.cell? ⟨w.heap.size, 3, none⟩ = some (.slice none 0 0) ∧ ∀ j, w1.frozen? ⟨w.heap.size, j, none⟩ = false) := by
      intro W w1 hW h3
      have KK : Kept W0 w1 := hW.then h3
      obtain ⟨_, hz, _, z0, z1, z2, z3, zf⟩ := HW0.out
      exact ⟨KK, KK.cellS z0, KK.cellS z1, KK.cellS z2, KK.cellS z3, fun j => (KK.frozen (by simp; omega)).trans (zf j)⟩
    have PE1 : Hid (∀ W, Kept W0 W → Calls Tryz.prog 75 #[.slice (cutAt (some ⟨b, o, none⟩) 1 cap 1) (m - 1) (cap - 1), .int .i64 (deep + 1)] W fun r w' => ∃ (e1 : Ex) (a1 : Option Addr) (n1 q1 : Nat), r = .returned (.agg #[.int .i64 e1.kind, .int .i64 e1.n, .string e1.name, .slice a1 n1 q1]) ∧ Hid (ExsIn w' W.heap.size w'.heap.size e1.of (.slice a1 n1 q1) ∧ (e1.size ≤ 2 * (m - 1) + 1 ∧ Px.Sx e1) ∧ Kept W w' ∧ Kept W0 w')) := by
      intro W hW
      have h0 := HL0.out
      have hcut := (HA.out.kept (HW0.out.1.then hW)).cut 1 m hm1 hml
      have hlen : ((l.take m).drop 1).length = m - 1 := by simp; omega
      have := HH.out (n - 1) (by omega) ((l.take m).drop 1) W _ (deep + 1) (by omega) (hcut.mono (Nat.le_trans HW0.out.1.size hW.size)) (by omega) (by omega) (by omega)
      refine this.mono ?_
      rintro r w1 ⟨e1, v1, rfl, h1, h2, h3⟩
      obtain ⟨a1, n1, q1, rfl⟩ := h1.form
      exact ⟨e1, a1, n1, q1, rfl, h1, by rw [hlen] at h2; exact h2, h3, hW.then h3⟩
    have PE2 : Hid (∀ W, Kept W0 W → Calls Tryz.prog 75 #[.slice (cutAt (some ⟨b, o, none⟩) m cap 1) (l.length - m) (cap - m), .int .i64 (deep + 1)] W fun r w' => ∃ (e1 : Ex) (a1 : Option Addr) (n1 q1 : Nat), r = .returned (.agg #[.int .i64 e1.kind, .int .i64 e1.n, .string e1.name, .slice a1 n1 q1]) ∧ Hid (ExsIn w' W.heap.size w'.heap.size e1.of (.slice a1 n1 q1) ∧ (e1.size ≤ 2 * (l.length - m) + 1 ∧ Px.Sx e1) ∧ Kept W w' ∧ Kept W0 w') ∧
        w'.cell? ⟨w.heap.size, 0, none⟩ = some (.int .i64 0) ∧ w'.cell? ⟨w.heap.size, 1, none⟩ = some (.int .i64 0) ∧ w'.cell? ⟨w.heap.size, 2, none⟩ = some (.string ⟨#[]⟩) ∧ w'.cell? ⟨w.heap.size, 3, none⟩ = some (.slice none 0 0) ∧ (∀ j, w'.frozen? ⟨w.heap.size, j, none⟩ = false) ∧ w.heap.size < w'.heap.size) := by
      intro W hW
      have h0 := HL0.out
      have hcut := (HA.out.kept (HW0.out.1.then hW)).cut m l.length hml (Nat.le_refl _)
      have hlen : ((l.take l.length).drop m).length = l.length - m := by simp
      have := HH.out (n - 1) (by omega) ((l.take l.length).drop m) W _ (deep + 1) (by omega) (hcut.mono (Nat.le_trans HW0.out.1.size hW.size)) (by omega) (by omega) (by omega)
      refine this.mono ?_
      rintro r w1 ⟨e1, v1, rfl, h1, h2, h3⟩
      obtain ⟨a1, n1, q1, rfl⟩ := h1.form
      obtain ⟨KK, z0, z1, z2, z3, zf⟩ := POST.out W w1 hW h3
      exact ⟨e1, a1, n1, q1, rfl, ⟨h1, by rw [hlen] at h2; exact h2, h3, KK⟩, z0, z1, z2, z3, zf, block_lt_of_cell z0⟩
    have hwr : IntKind.i64.wrap (deep + 1) = deep + 1 := by rw [IntKind.wrap_i64]; omega
    have hm1i : (1 : Int) ≤ (m : Int) := by omega
    have hmli : (m : Int) ≤ (l.length : Int) := by omega
    have hmci : (m : Int) ≤ (cap : Int) := by omega
    have hm0i : (0 : Int) ≤ (m : Int) := by omega
    simp only [hmi]
    clear hm hmi
    go_region_with (first | (go_at_call_of 75 (cutAt (some ⟨b, o, none⟩) 1 cap 1); refine (PE1.out _ (Kept.refl W0).dr).mono ?_; rintro r w1 ⟨e1, a1, n1, q1, rfl, HV⟩) | (go_at_call_of 75 (cutAt (some ⟨b, o, none⟩) m cap 1); refine (PE2.out _ HV.out.2.2.2).mono ?_; rintro r w2 ⟨e2, a2, n2, q2, rfl, HU, z0, z1, z2, z3, zf, hzw⟩))
    go_wp2_with fail
    have HT : w2.there w.heap.size 0 4 := there_of 4 (fun j hj => by
      match j, hj with
      | 0, _ => exact ⟨_, z0⟩
      | 1, _ => exact ⟨_, z1⟩
      | 2, _ => exact ⟨_, z2⟩
      | 3, _ => exact ⟨_, z3⟩) zf
    obtain ⟨f1, f2, f3, f4, f5⟩ := made_fin (cs := (Ex.mk (4 + (p : Int)) 0 ⟨#[]⟩ [e1, e2]).cells (.slice (some ⟨w2.heap.size, 0, none⟩) 2 2)) (HW0.out.1.then HU.out.2.2.2) HT rfl (.cells #[.int .i64 e1.kind, .int .i64 e1.n, .string e1.name, .slice a1 n1 q1, .int .i64 e2.kind, .int .i64 e2.n, .string e2.name, .slice a2 n2 q2] 79)
    refine bodyPost_ret (v := (Ex.mk (4 + (p : Int)) 0 ⟨#[]⟩ [e1, e2]).val (.slice (some ⟨w2.heap.size, 0, none⟩) 2 2)) (w := ((w2.setCells w.heap.size 0 ((Ex.mk (4 + (p : Int)) 0 ⟨#[]⟩ [e1, e2]).cells (.slice (some ⟨w2.heap.size, 0, none⟩) 2 2))).alloc (.cells #[.int .i64 e1.kind, .int .i64 e1.n, .string e1.name, .slice a1 n1 q1, .int .i64 e2.kind, .int .i64 e2.n, .string e2.name, .slice a2 n2 q2] 79))) (made_res _ rfl f2) rfl ⟨_, _, rfl, ?_, ⟨?_, ?_⟩, f1⟩
    · have h2 := HW0.out.2.1
      have hz12 := HU.out.2.2.1.size
      have hz1 := HV.out.2.2.2.size
      refine ExsD.two ⟨by omega, by omega⟩ f3 ?_ ?_
      · exact (((HV.out.1.stays (HU.out.2.2.1.stays (Nat.le_refl _))).mono (Rng.up (by show _ ≤ W0.heap.size; omega) hz12)).stays f5).mono (Rng.up (by omega) (by omega))
      · exact ((HU.out.1.mono (Rng.up (by omega) (Nat.le_refl _))).stays f5).mono (Rng.up (by omega) (by omega))
    · have h1 := HV.out.2.1.1
      have h2 := HU.out.2.1.1
      have h3 := HL0.out
      rw [Ex.size_eq]; show 1 + Ex.sizes [e1, e2] ≤ _; simp [Ex.sizes]; omega
    · have := Px.Sx.bin (4 + p) (by omega) (by omega) HV.out.2.1.2 HU.out.2.1.2
      unfold Px.binE at this
      rwa [show ((4 + p : Nat) : Int) = 4 + (p : Int) by omega] at this

theorem expr_any (n : Nat) : PHe n := by
  induction n using Nat.strongRecOn with
  | _ n ih => exact expr_of n ih
#print axioms expr_any
end Go.Proofs.YteaopephdjoegaaGreatDoor
