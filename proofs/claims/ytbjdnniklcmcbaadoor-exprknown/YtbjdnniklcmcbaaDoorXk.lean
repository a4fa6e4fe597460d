/- ExprKnown: the walk. -/
import Derived.Test.YtbjdnniklcmcbaaDoorKx
namespace Go.Proofs.YtbjdnniklcmcbaaDoor
open Go.RowKit
attribute [local go_sem] run_store_complex

theorem kidx (k : Nat) (hk : k < 8) : ∃ (S : ByteArray) (X : Ex) (N : Nat), (∀ w, (Instr.index 22 (.agg #[.string ⟨#[49, 32, 45, 32, 40, 50, 32, 45, 32, 51, 41, 32, 45, 32, 120]⟩, .string ⟨#[40, 49, 32, 60, 32, 50, 41, 32, 61, 61, 32, 40, 121, 32, 61, 61, 32, 48, 41]⟩, .string ⟨#[97, 32, 42, 32, 40, 98, 32, 47, 32, 99, 32, 37, 32, 100, 41, 32, 47, 32, 101]⟩, .string ⟨#[45, 45, 120, 32, 42, 32, 45, 40, 49, 32, 43, 32, 50, 41]⟩, .string ⟨#[45, 40, 45, 49, 32, 60, 32, 50, 41, 32, 43, 32, 48]⟩, .string ⟨#[120]⟩, .string ⟨#[49, 32, 45, 32, 50, 32, 42, 32, 40, 51, 32, 43, 32, 52, 41, 32, 60, 32, 53, 32, 37, 32, 54]⟩, .string ⟨#[40, 97, 32, 61, 61, 32, 98, 41, 32, 42, 32, 99]⟩]) (.int .i64 (k : Int))).run Tryd.prog w = .ok (.string S) w) ∧ Px.rd S.data.toList = (some X, N, N + 1) ∧ Px.Wf X ∧ 24 * X.size ≤ 1000000000000 ∧ Px.ba (Px.print X) = S ∧ N ≤ 100 ∧ S.size ≤ 100 := by
  have h9 := Tryd.sizeOf9
  have ha := Tryd.isAgg9
  match k, hk with
  | 0, _ => exact ⟨⟨#[49, 32, 45, 32, 40, 50, 32, 45, 32, 51, 41, 32, 45, 32, 120]⟩, Px.kx0, 9, fun w => by simp [Instr.index, go_sem, h9, ha], Px.kr0, Px.kw0, by decide +kernel, by rw [Px.kp0]; rfl, by decide, by decide⟩
  | 1, _ => exact ⟨⟨#[40, 49, 32, 60, 32, 50, 41, 32, 61, 61, 32, 40, 121, 32, 61, 61, 32, 48, 41]⟩, Px.kx1, 11, fun w => by simp [Instr.index, go_sem, h9, ha], Px.kr1, Px.kw1, by decide +kernel, by rw [Px.kp1]; rfl, by decide, by decide⟩
  | 2, _ => exact ⟨⟨#[97, 32, 42, 32, 40, 98, 32, 47, 32, 99, 32, 37, 32, 100, 41, 32, 47, 32, 101]⟩, Px.kx2, 11, fun w => by simp [Instr.index, go_sem, h9, ha], Px.kr2, Px.kw2, by decide +kernel, by rw [Px.kp2]; rfl, by decide, by decide⟩
  | 3, _ => exact ⟨⟨#[45, 45, 120, 32, 42, 32, 45, 40, 49, 32, 43, 32, 50, 41]⟩, Px.kx3, 10, fun w => by simp [Instr.index, go_sem, h9, ha], Px.kr3, Px.kw3, by decide +kernel, by rw [Px.kp3]; rfl, by decide, by decide⟩
  | 4, _ => exact ⟨⟨#[45, 40, 45, 49, 32, 60, 32, 50, 41, 32, 43, 32, 48]⟩, Px.kx4, 9, fun w => by simp [Instr.index, go_sem, h9, ha], Px.kr4, Px.kw4, by decide +kernel, by rw [Px.kp4]; rfl, by decide, by decide⟩
  | 5, _ => exact ⟨⟨#[120]⟩, Px.kx5, 1, fun w => by simp [Instr.index, go_sem, h9, ha], Px.kr5, Px.kw5, by decide +kernel, by rw [Px.kp5]; rfl, by decide, by decide⟩
  | 6, _ => exact ⟨⟨#[49, 32, 45, 32, 50, 32, 42, 32, 40, 51, 32, 43, 32, 52, 41, 32, 60, 32, 53, 32, 37, 32, 54]⟩, Px.kx6, 13, fun w => by simp [Instr.index, go_sem, h9, ha], Px.kr6, Px.kw6, by decide +kernel, by rw [Px.kp6]; rfl, by decide, by decide⟩
  | 7, _ => exact ⟨⟨#[40, 97, 32, 61, 61, 32, 98, 41, 32, 42, 32, 99]⟩, Px.kx7, 7, fun w => by simp [Instr.index, go_sem, h9, ha], Px.kr7, Px.kw7, by decide +kernel, by rw [Px.kp7]; rfl, by decide, by decide⟩

set_option maxRecDepth 100000 in
set_option maxHeartbeats 2000000 in
theorem exprKnown_any (w : World) (hE : Env w) : Calls Tryd.prog 3 #[] w fun e w' => e = .returned (.bool true) ∧ Kept w w' := by
  have HE : Hid (Env w) := hE
  have Q0 : Hid (∀ W, Kept w W → Calls Tryd.prog 7 #[.string ⟨#[120, 32, 43, 32, 41]⟩] W fun e w' => GotL W (Px.kz0, 2, 4) e w') := fun W hW => lread_any _ (by decide) W (hE.kept hW) _ Px.kq0
  have Q1 : Hid (∀ W, Kept w W → Calls Tryd.prog 7 #[.string ⟨#[120, 32, 121]⟩] W fun e w' => GotL W (Px.kz1, 1, 3) e w') := fun W hW => lread_any _ (by decide) W (hE.kept hW) _ Px.kq1
  have Q2 : Hid (∀ W, Kept w W → Calls Tryd.prog 7 #[.string ⟨#[49, 32, 60, 32, 50, 32, 60, 32, 51]⟩] W fun e w' => GotL W (Px.kz2, 3, 6) e w') := fun W hW => lread_any _ (by decide) W (hE.kept hW) _ Px.kq2
  have Q3 : Hid (∀ W, Kept w W → Calls Tryd.prog 7 #[.string ⟨#[40, 32, 120]⟩] W fun e w' => GotL W (Px.kz3, 2, 3) e w') := fun W hW => lread_any _ (by decide) W (hE.kept hW) _ Px.kq3
  have Q4 : Hid (∀ W, Kept w W → Calls Tryd.prog 7 #[.string ⟨#[103, 111]⟩] W fun e w' => GotL W (Px.kz4, 0, 2) e w') := fun W hW => lread_any _ (by decide) W (hE.kept hW) _ Px.kq4
  have Q5 : Hid (∀ W, Kept w W → Calls Tryd.prog 7 #[.string ⟨#[40, 40, 40, 40, 40, 40, 40, 40, 120, 41, 41, 41, 41, 41, 41, 41, 41]⟩] W fun e w' => GotL W (Px.kz5, 17, 18) e w') := fun W hW => lread_any _ (by decide) W (hE.kept hW) _ Px.kq5
  have Q6 : Hid (∀ W, Kept w W → Calls Tryd.prog 7 #[.string ⟨#[40, 40, 40, 40, 40, 40, 40, 40, 40, 120, 41, 41, 41, 41, 41, 41, 41, 41, 41]⟩] W fun e w' => GotL W (Px.kz6, 8, 20) e w') := fun W hW => lread_any _ (by decide) W (hE.kept hW) _ Px.kq6
  have Q7 : Hid (∀ W, Kept w W → Calls Tryd.prog 7 #[.string ⟨#[45, 45, 45, 45, 45, 45, 45, 45, 32, 45, 120]⟩] W fun e w' => GotL W (Px.kz7, 8, 11) e w') := fun W hW => lread_any _ (by decide) W (hE.kept hW) _ Px.kq7
  have Q8 : Hid (∀ W, Kept w W → Calls Tryd.prog 7 #[.string ⟨#[]⟩] W fun e w' => GotL W (Px.kz8, 0, 1) e w') := fun W hW => lread_any _ (by decide) W (hE.kept hW) _ Px.kq8
  have N0 : Hid (∀ W, Kept w W → Calls Tryd.prog 8 #[.agg #[.int .i64 (0), .int .i64 (0), .string ⟨#[]⟩, .slice none 0 0]] W fun e w' => e = .returned (.string ⟨#[]⟩) ∧ Kept W w') := fun W hW => by
    have := print_any ex0 W (.slice none 0 0) (ExsD.nil _ _) (by show Ex.fit (.mk 0 (0) ⟨#[]⟩ []); rw [Ex.fit]; exact ⟨⟨by decide, by decide, by decide⟩, trivial⟩) (by decide +kernel) (hE.kept hW)
    rw [Px.kn0] at this
    exact this
  have N1 : Hid (∀ W, Kept w W → Calls Tryd.prog 8 #[.agg #[.int .i64 (1), .int .i64 (-1), .string ⟨#[]⟩, .slice none 0 0]] W fun e w' => e = .returned (.string ⟨#[]⟩) ∧ Kept W w') := fun W hW => by
    have := print_any (.mk 1 (-1) Px.e0 []) W (.slice none 0 0) (ExsD.nil _ _) (by show Ex.fit (.mk 1 (-1) ⟨#[]⟩ []); rw [Ex.fit]; exact ⟨⟨by decide, by decide, by decide⟩, trivial⟩) (by decide +kernel) (hE.kept hW)
    rw [Px.kn1] at this
    exact this
  have N2 : Hid (∀ W, Kept w W → Calls Tryd.prog 10 #[.agg #[.int .i64 (2), .int .i64 (0), .string ⟨#[103, 111]⟩, .slice none 0 0]] W fun e w' => e = .returned (.bool false) ∧ Kept W w') := fun W hW => right_any (.mk 2 0 ⟨#[103, 111]⟩ []) W (.slice none 0 0) (ExsD.nil _ _) (by show Ex.fit (.mk 2 (0) ⟨#[103, 111]⟩ []); rw [Ex.fit]; exact ⟨⟨by decide, by decide, by decide⟩, trivial⟩) (by decide +kernel) (hE.kept hW) false (by rw [Px.kn2]; rfl)
  have N3 : Hid (∀ W, Kept w W → Calls Tryd.prog 10 #[.agg #[.int .i64 (2), .int .i64 (0), .string ⟨#[120, 32, 121]⟩, .slice none 0 0]] W fun e w' => e = .returned (.bool false) ∧ Kept W w') := fun W hW => right_any (.mk 2 0 ⟨#[120, 32, 121]⟩ []) W (.slice none 0 0) (ExsD.nil _ _) (by show Ex.fit (.mk 2 (0) ⟨#[120, 32, 121]⟩ []); rw [Ex.fit]; exact ⟨⟨by decide, by decide, by decide⟩, trivial⟩) (by decide +kernel) (hE.kept hW) false (by rw [Px.kn3]; rfl)
  have N4 : Hid (∀ W, Kept w W → Calls Tryd.prog 10 #[.agg #[.int .i64 (1), .int .i64 (0), .string ⟨#[120]⟩, .slice none 0 0]] W fun e w' => e = .returned (.bool false) ∧ Kept W w') := fun W hW => right_any (.mk 1 0 ⟨#[120]⟩ []) W (.slice none 0 0) (ExsD.nil _ _) (by show Ex.fit (.mk 1 (0) ⟨#[120]⟩ []); rw [Ex.fit]; exact ⟨⟨by decide, by decide, by decide⟩, trivial⟩) (by decide +kernel) (hE.kept hW) false (by rw [Px.kn4]; rfl)
  have N5 : Hid (∀ W, Kept w W → Calls Tryd.prog 10 #[.agg #[.int .i64 (3), .int .i64 (0), .string ⟨#[]⟩, .slice none 0 0]] W fun e w' => e = .returned (.bool false) ∧ Kept W w') := fun W hW => right_any (.mk 3 0 Px.e0 []) W (.slice none 0 0) (ExsD.nil _ _) (by show Ex.fit (.mk 3 (0) ⟨#[]⟩ []); rw [Ex.fit]; exact ⟨⟨by decide, by decide, by decide⟩, trivial⟩) (by decide +kernel) (hE.kept hW) false (by rw [Px.kn5]; rfl)
  have KN : Hid (∀ W, Kept w W → Calls Tryd.prog 9 #[] W fun e w' => e = .returned (.bool true) ∧ Kept W w') := fun W hW => known_any W (hE.kept hW)
  clear hE
  go_enter Tryd.func3, Tryd.ntmps3
  go_wp2_with fail
  go_loopw [44] (fun i wr => ∃ k : Nat, i = .int .i64 (k : Int) ∧ k ≤ 8 ∧ Hid (Kept w wr)) (fun i _ => 8 - (intOf i).toNat)
  case atStart => exact ⟨0, rfl, by decide, Kept.refl _⟩
  case round =>
    obtain ⟨k, rfl, hk, HB⟩ := hrel
    by_cases hlt : k < 8
    · obtain ⟨S, X, N, hix, hrd, hwf, hsz, hpr, hN, hS⟩ := kidx k hlt
      have hki : (k : Int) < 8 := by omega
      have RD : Hid (Calls Tryd.prog 7 #[.string S] wr fun e w' => GotL wr (some X, N, N + 1) e w') := lread_any S (by omega) wr (HE.out.kept HB.out) _ hrd
      have HX : Hid (Px.Wf X ∧ 24 * X.size ≤ 1000000000000 ∧ Px.ba (Px.print X) = S) := ⟨hwf, hsz, hpr⟩
      clear hrd hwf hsz hpr hS
      go_wp2_with fail
      refine RD.out.mono ?_
      rintro e w1 ⟨x, b, p, n, a, l, q, rfl, hx, hb, hp, hn, hT, hK⟩
      have hx' : x = X := hx
      have hb' : b = true := hb
      have hp' : p = N := hp
      have hn' : n = N + 1 := hn
      subst hb' hp' hn'
      have HK1 : Hid (Kept w w1) := HB.out.then hK
      have PR : Hid (∀ W, Kept w1 W → Calls Tryd.prog 8 #[.agg #[.int .i64 x.kind, .int .i64 x.n, .string x.name, .slice a l q]] W fun e w' => e = .returned (.string S) ∧ Kept W w') := fun W hW => by
        obtain ⟨h1, h2, h3⟩ := HX.out
        have := print_any x W _ (hT.up (Nat.le_refl _) hW) (by rw [hx']; exact h1.fit) (by rw [hx']; exact h2) ((HE.out.kept HK1.out).kept hW)
        rw [hx', h3] at this
        rw [hx']
        exact this
      clear hx hb hp hn hT hK hx'
      go_wp2_with fail
      refine (PR.out _ ((Kept.refl _).al _)).mono ?_
      rintro e w2 ⟨rfl, k2⟩
      have HK2 : Hid (Kept w w2) := (HK1.out.al _).then k2
      clear k2
      go_wp2_with fail
      go_roundw
      case rel => exact ⟨k + 1, by go_num, by omega, HK2⟩
      case measure => simp [intOf]; omega
    · have hki : ¬ (k : Int) < 8 := by omega
      have W0K : Hid (Kept w wr) := HB
      obtain ⟨v0, hv0⟩ : ∃ v, v = wr := ⟨_, rfl⟩
      subst hv0
      clear HB hk hlt
      go_wp2_with fail
      refine (Q0.out _ W0K.out).mono ?_
      rintro e v1 ⟨x0, b0, p0, n0, a0, l0, q0, rfl, -, hb, hp, hn, -, hK⟩
      have hb' : b0 = false := hb
      have hp' : p0 = 2 := hp
      have hn' : n0 = 4 := hn
      subst hb' hp' hn'
      have V1 : Hid (Kept w v1) := (W0K.out).then hK
      clear hb hp hn hK
      go_wp2_with fail
      refine (Q1.out _ (V1.out.al _)).mono ?_
      rintro e v2 ⟨x1, b1, p1, n1, a1, l1, q1, rfl, -, hb, hp, hn, -, hK⟩
      have hb' : b1 = true := hb
      have hp' : p1 = 1 := hp
      have hn' : n1 = 3 := hn
      subst hb' hp' hn'
      have V2 : Hid (Kept w v2) := (V1.out.al _).then hK
      clear hb hp hn hK
      go_wp2_with fail
      refine (Q2.out _ (V2.out.al _)).mono ?_
      rintro e v3 ⟨x2, b2, p2, n2, a2, l2, q2, rfl, -, hb, hp, hn, -, hK⟩
      have hb' : b2 = true := hb
      have hp' : p2 = 3 := hp
      have hn' : n2 = 6 := hn
      subst hb' hp' hn'
      have V3 : Hid (Kept w v3) := (V2.out.al _).then hK
      clear hb hp hn hK
      go_wp2_with fail
      refine (Q3.out _ (V3.out.al _)).mono ?_
      rintro e v4 ⟨x3, b3, p3, n3, a3, l3, q3, rfl, -, hb, hp, hn, -, hK⟩
      have hb' : b3 = false := hb
      have hp' : p3 = 2 := hp
      have hn' : n3 = 3 := hn
      subst hb' hp' hn'
      have V4 : Hid (Kept w v4) := (V3.out.al _).then hK
      clear hb hp hn hK
      go_wp2_with fail
      refine (Q4.out _ (V4.out.al _)).mono ?_
      rintro e v5 ⟨x4, b4, p4, n4, a4, l4, q4, rfl, -, hb, hp, hn, -, hK⟩
      have hb' : b4 = false := hb
      have hp' : p4 = 0 := hp
      have hn' : n4 = 2 := hn
      subst hb' hp' hn'
      have V5 : Hid (Kept w v5) := (V4.out.al _).then hK
      clear hb hp hn hK
      go_wp2_with fail
      refine (Q5.out _ (V5.out.al _)).mono ?_
      rintro e v6 ⟨x5, b5, p5, n5, a5, l5, q5, rfl, -, hb, hp, hn, -, hK⟩
      have hb' : b5 = true := hb
      have hp' : p5 = 17 := hp
      have hn' : n5 = 18 := hn
      subst hb' hp' hn'
      have V6 : Hid (Kept w v6) := (V5.out.al _).then hK
      clear hb hp hn hK
      go_wp2_with fail
      refine (Q6.out _ (V6.out.al _)).mono ?_
      rintro e v7 ⟨x6, b6, p6, n6, a6, l6, q6, rfl, -, hb, hp, hn, -, hK⟩
      have hb' : b6 = false := hb
      have hp' : p6 = 8 := hp
      have hn' : n6 = 20 := hn
      subst hb' hp' hn'
      have V7 : Hid (Kept w v7) := (V6.out.al _).then hK
      clear hb hp hn hK
      go_wp2_with fail
      refine (Q7.out _ (V7.out.al _)).mono ?_
      rintro e v8 ⟨x7, b7, p7, n7, a7, l7, q7, rfl, -, hb, hp, hn, -, hK⟩
      have hb' : b7 = false := hb
      have hp' : p7 = 8 := hp
      have hn' : n7 = 11 := hn
      subst hb' hp' hn'
      have V8 : Hid (Kept w v8) := (V7.out.al _).then hK
      clear hb hp hn hK
      go_wp2_with fail
      refine (Q8.out _ (V8.out.al _)).mono ?_
      rintro e v9 ⟨x8, b8, p8, n8, a8, l8, q8, rfl, -, hb, hp, hn, -, hK⟩
      have hb' : b8 = false := hb
      have hp' : p8 = 0 := hp
      have hn' : n8 = 1 := hn
      subst hb' hp' hn'
      have V9 : Hid (Kept w v9) := (V8.out.al _).then hK
      clear hb hp hn hK
      go_wp2_with fail
      refine (KN.out _ (V9.out.al _)).mono ?_
      rintro e y0 ⟨rfl, k0⟩
      have Y0 : Hid (Kept w y0) := (V9.out.al _).then k0
      clear k0
      go_wp2_with fail
      refine (N0.out _ Y0.out).mono ?_
      rintro e y1 ⟨rfl, k0⟩
      have Y1 : Hid (Kept w y1) := Y0.out.then k0
      clear k0
      go_wp2_with fail
      refine (N1.out _ Y1.out).mono ?_
      rintro e y2 ⟨rfl, k0⟩
      have Y2 : Hid (Kept w y2) := Y1.out.then k0
      clear k0
      go_wp2_with fail
      refine (N2.out _ Y2.out).mono ?_
      rintro e y3 ⟨rfl, k0⟩
      have Y3 : Hid (Kept w y3) := Y2.out.then k0
      clear k0
      go_wp2_with fail
      refine (N3.out _ Y3.out).mono ?_
      rintro e y4 ⟨rfl, k0⟩
      have Y4 : Hid (Kept w y4) := Y3.out.then k0
      clear k0
      go_wp2_with fail
      refine (N4.out _ Y4.out).mono ?_
      rintro e y5 ⟨rfl, k0⟩
      have Y5 : Hid (Kept w y5) := Y4.out.then k0
      clear k0
      go_wp2_with fail
      refine (N5.out _ Y5.out).mono ?_
      rintro e y6 ⟨rfl, k0⟩
      have Y6 : Hid (Kept w y6) := Y5.out.then k0
      clear k0
      go_wp2_with fail
      go_ret
      exact ⟨rfl, Y6.out⟩
#print axioms exprKnown_any
end Go.Proofs.YtbjdnniklcmcbaaDoor
