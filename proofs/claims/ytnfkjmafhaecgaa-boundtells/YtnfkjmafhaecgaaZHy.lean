/- Hy -/
import Derived.Test.YtnfkjmafhaecgaaZHdA
import Derived.Test.YtnfkjmafhaecgaaZBb
import Derived.Deep.RegionHeld3

namespace Go.Proofs.Ytnfkjmafhaecgaa
open Go.RowKit
attribute [local go_sem] run_store_complex
attribute [local go_sem ↓] cut_i1 cut_im cut_i1m
/-- How many instructions an expression of raw numbers is, so deep at most. -/
def enF : Nat → List Int → Nat
  | 0, _ => 1
  | d + 1, l => if l.length = 0 then 1 else if l.headD 0 % 16 < 8 then 1 else if l.headD 0 % 16 = 8 then 1 + enF d ((l.take l.length).drop 1) else 1 + (enF d ((l.take (1 + l.length / 2)).drop 1) + enF d ((l.take l.length).drop (1 + l.length / 2)))
theorem enF_nil (d : Nat) (l : List Int) (h : l.length = 0) : enF d l = 1 := by
  cases d with
  | zero => rfl
  | succ d => exact if_pos h
theorem enF_leaf (d : Nat) (l : List Int) (x : Int) (h : l.headD 0 = x) (h1 : x % 16 < 8 ∨ d = 0) : enF d l = 1 := by
  cases d with
  | zero => rfl
  | succ d =>
    rcases h1 with h1 | h1
    · unfold enF
      by_cases h0 : l.length = 0
      · rw [if_pos h0]
      · rw [if_neg h0, h, if_pos h1]
    · cases h1
theorem enF_minus (d : Nat) (l : List Int) (x : Int) (h : l.headD 0 = x) (h0 : l.length ≠ 0) (h1 : x % 16 = 8) (hd : d ≠ 0) : enF d l = 1 + enF (d - 1) ((l.take l.length).drop 1) := by
  cases d with
  | zero => exact absurd rfl hd
  | succ d => rw [enF, if_neg h0, h, if_neg (by omega), if_pos h1]; rfl
theorem enF_bin (d : Nat) (l : List Int) (x : Int) (h : l.headD 0 = x) (h0 : l.length ≠ 0) (h1 : ¬ x % 16 < 8) (h2 : ¬ x % 16 = 8) (hd : d ≠ 0) (m : Nat) (hm : m = 1 + l.length / 2) : enF d l = 1 + (enF (d - 1) ((l.take m).drop 1) + enF (d - 1) ((l.take l.length).drop m)) := by
  subst hm
  cases d with
  | zero => exact absurd rfl hd
  | succ d => rw [enF, if_neg h0, h, if_neg h1, if_neg h2]; rfl
theorem enF_le : ∀ (d : Nat) (l : List Int), enF d l + 1 ≤ 2 ^ (d + 1)
  | 0, l => by rw [enF]; decide
  | d + 1, l => by
    have h1 := enF_le d ((l.take l.length).drop 1)
    have h2 := enF_le d ((l.take (1 + l.length / 2)).drop 1)
    have h3 := enF_le d ((l.take l.length).drop (1 + l.length / 2))
    have h4 : 2 ^ (d + 1 + 1) = 2 ^ (d + 1) * 2 := Nat.pow_succ ..
    have h5 : 1 ≤ 2 ^ d := Nat.one_le_pow _ _ (by decide)
    have h6 : 2 ^ (d + 1) = 2 ^ d * 2 := Nat.pow_succ ..
    rw [enF]
    split
    · omega
    · split
      · omega
      · split <;> omega
/-- What Expr leaves: an expression so long. -/
def MadeY (w : World) (c : Nat) (r : Ending) (w' : World) : Prop :=
  ∃ (e : Ex) (v : Value), r = .returned (e.val v) ∧ ExsIn w' w.heap.size w'.heap.size e.of v ∧ (e.size = c ∧ Bn.en e = c) ∧ Kept w w'
def PHy (d : Nat) : Prop := ∀ (l : List Int) (w : World) (v : Value) (deep : Int), deep + d = 6 → IntsR w w.heap.size l v → l.length ≤ 17592186044416 → 0 ≤ deep →
  Calls Try.prog 25 #[v, .int .i64 deep] w fun r w' => MadeY w (enF d l) r w'
set_option maxRecDepth 100000 in
set_option maxHeartbeats 2000000 in
theorem expry_of (d : Nat) (H : ∀ m, m + 1 = d → PHy m) : PHy d := by
  intro l w v deep hn hi hl hd
  have HA : Hid _ := hi
  have HH : Hid (∀ m, m + 1 = d → PHy m) := H
  obtain ⟨a, cap, rfl, hc1, hc2, hcell, hrng⟩ := hi.out
  by_cases h0 : l.length = 0
  · clear H hi hcell hrng
    have e0 : ((l.length : Int) == 0) = true := by rw [h0]; rfl
    go_enter Try.func25, Try.ntmps25
    go_wp2_with fail
    refine bodyPost_ret (v := .agg #[.int .i64 1, .int .i64 1, .string ⟨#[]⟩, .slice none 0 0]) (by simp [results, Try.results25, go_sem]) rfl ⟨.mk 1 1 ⟨#[]⟩ [], _, rfl, ExsD.nil _ _, ⟨by rw [enF_nil d l h0]; rfl, by rw [enF_nil d l h0]; rfl⟩, (Kept.refl _).al _⟩
  have e0 : ((l.length : Int) == 0) = false := by rw [beq_eq_false_iff_ne]; omega
  obtain ⟨b, o, rfl, hb, c0⟩ := hcell 0 (by omega)
  obtain ⟨x, hx⟩ : ∃ x, l[0] = x := ⟨_, rfl⟩
  rw [hx] at c0
  have hxh : l.headD 0 = x := by rw [← hx]; cases l with
    | nil => exact absurd rfl h0
    | cons a l => rfl
  obtain ⟨x1, x2⟩ := hrng x (by rw [← hx]; exact List.getElem_mem _)
  obtain ⟨k, hk, hkx, hpk⟩ := pick_nat x 16 (by omega) (by omega)
  have PK : Hid (∀ w, Calls Try.prog 16 #[.int .i64 x, .int .i64 16] w fun e w' => e = .returned (.int .i64 (k : Int)) ∧ w' = w) := hpk
  have hpos : (0 : Int) < (l.length : Int) := by omega
  have HLF : Hid (k < 8 ∨ 5 < deep → enF d l = 1) := fun h => enF_leaf d l x hxh (by omega)
  have HMI : Hid (k = 8 → ¬ 5 < deep → enF d l = 1 + enF (d - 1) ((l.take l.length).drop 1)) := fun h h2 => enF_minus d l x hxh h0 (by omega) (by omega)
  have HBI : Hid (¬ k < 8 → ¬ k = 8 → ¬ 5 < deep → ∀ m, m = 1 + l.length / 2 → enF d l = 1 + (enF (d - 1) ((l.take m).drop 1) + enF (d - 1) ((l.take l.length).drop m))) := fun h1 h2 h3 m hm => enF_bin d l x hxh h0 (by omega) (by omega) (by omega) m hm
  have HL0 : Hid (l.length ≠ 0) := h0
  clear H hi hcell hrng hx hpk h0 hxh hkx
  rw [Nat.add_zero] at c0
  by_cases hleaf : k < 5 ∨ 5 < deep
  · obtain ⟨s, hs⟩ : ∃ s : ByteArray, ∀ w, Calls Try.prog 41 #[.int .i64 (x.tdiv 16)] w fun e w' => e = .returned (.string s) ∧ w' = w := by
      obtain ⟨t, _, hs⟩ := plain_any (x.tdiv 16)
      exact ⟨Px.ba t, hs⟩
    have PP : Hid (∀ w, Calls Try.prog 41 #[.int .i64 (x.tdiv 16)] w fun e w' => e = .returned (.string s) ∧ w' = w) := hs
    clear hs
    by_cases hk5 : k < 5
    all_goals
      first | (have g5 : (k : Int) < 5 := by omega) | (have g5 : decide ((k : Int) < 5) = false := decide_eq_false (by omega); have g6 : 5 < deep := by omega)
      clear hleaf
      go_enter Try.func25, Try.ntmps25
      go_wp2_with fail
      refine (PK.out _).mono ?_
      rintro e w' ⟨rfl, rfl⟩
      go_wp2_with fail
      refine (PP.out _).mono ?_
      rintro e w' ⟨rfl, rfl⟩
      go_wp2_with fail
      refine bodyPost_ret (v := .agg #[.int .i64 2, .int .i64 0, .string s, .slice none 0 0]) (by simp [results, Try.results25, go_sem]) rfl ⟨.mk 2 0 s [], _, rfl, ExsD.nil _ _, ⟨by rw [HLF.out (by omega)]; rfl, by rw [HLF.out (by omega)]; rfl⟩, (Kept.refl _).al _⟩
  have g5 : decide ((k : Int) < 5) = false := decide_eq_false (by omega)
  have g6 : ¬ 5 < deep := by omega
  by_cases hk8 : k < 8
  · have g8 : (k : Int) < 8 := by omega
    obtain ⟨p, hp, -, hpp⟩ := pick_nat (x.tdiv 16) 5 (by omega) (by omega)
    have PP : Hid (∀ w, Calls Try.prog 16 #[.int .i64 (x.tdiv 16), .int .i64 5] w fun e w' => e = .returned (.int .i64 (p : Int)) ∧ w' = w) := hpp
    clear hleaf hpp
    go_enter Try.func25, Try.ntmps25
    go_wp2_with fail
    refine (PK.out _).mono ?_
    rintro e w' ⟨rfl, rfl⟩
    go_wp2_with fail
    refine (PP.out _).mono ?_
    rintro e w' ⟨rfl, rfl⟩
    go_wp2_with fail
    refine bodyPost_ret (v := .agg #[.int .i64 1, .int .i64 p, .string ⟨#[]⟩, .slice none 0 0]) (by simp [results, Try.results25, go_sem]) rfl ⟨.mk 1 p ⟨#[]⟩ [], _, rfl, ExsD.nil _ _, ⟨by rw [HLF.out (.inl hk8)]; rfl, by rw [HLF.out (.inl hk8)]; rfl⟩, (Kept.refl _).al _⟩
  have g8 : decide ((k : Int) < 8) = false := decide_eq_false (by omega)
  obtain ⟨W0, hW0⟩ : ∃ W0, w.alloc (.cells #[.int .i64 0, .int .i64 0, .string ⟨#[]⟩, .slice none 0 0] 44) = W0 := ⟨_, rfl⟩
  have HW0 : Hid (Kept w W0 ∧ W0.heap.size = w.heap.size + 1 ∧ W0.there w.heap.size 0 4 ∧ W0.cell? ⟨w.heap.size, 0, none⟩ = some (.int .i64 0) ∧ W0.cell? ⟨w.heap.size, 1, none⟩ = some (.int .i64 0) ∧ W0.cell? ⟨w.heap.size, 2, none⟩ = some (.string ⟨#[]⟩) ∧ W0.cell? ⟨w.heap.size, 3, none⟩ = some (.slice none 0 0) ∧ ∀ j, W0.frozen? ⟨w.heap.size, j, none⟩ = false) := by
    rw [← hW0]
    refine ⟨(Kept.refl _).al _, by simp, ?_, by simp, by simp, by simp, by simp, by simp⟩
    exact there_of 4 (fun j hj => by
      match j, hj with
      | 0, _ => exact ⟨.int .i64 0, by simp⟩
      | 1, _ => exact ⟨.int .i64 0, by simp⟩
      | 2, _ => exact ⟨.string ⟨#[]⟩, by simp⟩
      | 3, _ => exact ⟨.slice none 0 0, by simp⟩) (by simp)
  have c0w : W0.cell? ⟨b, o, none⟩ = some (.int .i64 x) := HW0.out.1.cellS c0
  by_cases hk88 : k = 8
  · subst hk88
    have PE : Hid (∀ W, Kept W0 W → Calls Try.prog 25 #[.slice (cutAt (some ⟨b, o, none⟩) 1 cap 1) (l.length - 1) (cap - 1), .int .i64 (deep + 1)] W fun r w' => ∃ (e1 : Ex) (a1 : Option Addr) (n1 q1 : Nat), r = .returned (.agg #[.int .i64 e1.kind, .int .i64 e1.n, .string e1.name, .slice a1 n1 q1]) ∧ Hid (ExsIn w' W.heap.size w'.heap.size e1.of (.slice a1 n1 q1) ∧ (e1.size = enF (d - 1) ((l.take l.length).drop 1) ∧ Bn.en e1 = enF (d - 1) ((l.take l.length).drop 1)) ∧ Kept W w' ∧ Kept W0 w') ∧
        w'.cell? ⟨w.heap.size, 0, none⟩ = some (.int .i64 0) ∧ w'.cell? ⟨w.heap.size, 1, none⟩ = some (.int .i64 0) ∧ w'.cell? ⟨w.heap.size, 2, none⟩ = some (.string ⟨#[]⟩) ∧ w'.cell? ⟨w.heap.size, 3, none⟩ = some (.slice none 0 0) ∧ ∀ j, w'.frozen? ⟨w.heap.size, j, none⟩ = false) := by
      intro W hW
      have h0 := HL0.out
      have hcut := (HA.out.kept (HW0.out.1.then hW)).cut 1 l.length (by omega) (Nat.le_refl _)
      have hlen : ((l.take l.length).drop 1).length = l.length - 1 := by simp
      have := HH.out (d - 1) (by omega) ((l.take l.length).drop 1) W _ (deep + 1) (by omega) (hcut.mono (Nat.le_trans HW0.out.1.size hW.size)) (by omega) (by omega)
      refine this.mono ?_
      rintro r w1 ⟨e1, v1, rfl, h1, h2, h3⟩
      obtain ⟨a1, n1, q1, rfl⟩ := h1.form
      have KK : Kept W0 w1 := hW.then h3
      obtain ⟨_, hz, _, z0, z1, z2, z3, zf⟩ := HW0.out
      exact ⟨e1, a1, n1, q1, rfl, ⟨h1, h2, h3, KK⟩, KK.cellS z0, KK.cellS z1, KK.cellS z2, KK.cellS z3, fun j => (KK.frozen (by simp; omega)).trans (zf j)⟩
    clear hleaf
    go_enter Try.func25, Try.ntmps25
    go_wp2_with fail
    refine (PK.out _).mono ?_
    rintro e w' ⟨rfl, hw'⟩
    obtain rfl : W0 = w' := hw'.symm
    clear hw'
    have h1n : (1 : Int) ≤ (l.length : Int) := by omega
    go_wp2_with fail
    refine (PE.out _ (Kept.refl _)).mono ?_
    rintro r w1 ⟨e1, a1, n1, q1, rfl, HV, z0, z1, z2, z3, zf⟩
    have hzw : w.heap.size < w1.heap.size := block_lt_of_cell z0
    go_wp2_with fail
    have HT : w1.there w.heap.size 0 4 := there_of 4 (fun j hj => by
      match j, hj with
      | 0, _ => exact ⟨_, z0⟩
      | 1, _ => exact ⟨_, z1⟩
      | 2, _ => exact ⟨_, z2⟩
      | 3, _ => exact ⟨_, z3⟩) zf
    obtain ⟨f1, f2, f3, f4, f5⟩ := made_fin (cs := (Ex.mk 3 0 ⟨#[]⟩ [e1]).cells (.slice (some ⟨w1.heap.size, 0, none⟩) 1 1)) (HW0.out.1.then HV.out.2.2.2) HT rfl (.cells #[.int .i64 e1.kind, .int .i64 e1.n, .string e1.name, .slice a1 n1 q1] 44)
    refine bodyPost_ret (v := (Ex.mk 3 0 ⟨#[]⟩ [e1]).val (.slice (some ⟨w1.heap.size, 0, none⟩) 1 1)) (w := ((w1.setCells w.heap.size 0 ((Ex.mk 3 0 ⟨#[]⟩ [e1]).cells (.slice (some ⟨w1.heap.size, 0, none⟩) 1 1))).alloc (.cells #[.int .i64 e1.kind, .int .i64 e1.n, .string e1.name, .slice a1 n1 q1] 44))) (made_res _ rfl f2) rfl ⟨_, _, rfl, ?_, ⟨?_, ?_⟩, f1⟩
    · refine ExsD.one ⟨by omega, by omega⟩ f3 ?_
      have h2 := HW0.out.2.1
      exact ((HV.out.1.mono (Rng.up (by omega) (Nat.le_refl _))).stays f5).mono (Rng.up (by omega) (by omega))
    · rw [HMI.out trivial g6, ← HV.out.2.1.1, Ex.size_eq]; show 1 + Ex.sizes [e1] = _; simp [Ex.sizes]
    · rw [HMI.out trivial g6, ← HV.out.2.1.2, Bn.en_eq]; show Bn.own 3 + Bn.ens [e1] = _; simp [Bn.ens, Bn.own]
  · obtain ⟨p, hp, -, hpp⟩ := pick_nat (x.tdiv 16) 7 (by omega) (by omega)
    have PP : Hid (∀ w, Calls Try.prog 16 #[.int .i64 (x.tdiv 16), .int .i64 7] w fun e w' => e = .returned (.int .i64 (p : Int)) ∧ w' = w) := hpp
    have g88 : ((k : Int) == 8) = false := by rw [beq_eq_false_iff_ne]; omega
    clear hleaf hpp
    have h1n : (1 : Int) ≤ (l.length : Int) := by omega
    go_enter Try.func25, Try.ntmps25
    go_wp2_with fail
    refine (PK.out _).mono ?_
    rintro e w' ⟨rfl, hw'⟩
    obtain rfl : W0 = w' := hw'.symm
    clear hw'
    go_wp2_with fail
    refine (PP.out _).mono ?_
    rintro e w' ⟨rfl, hw'⟩
    obtain rfl : W0 = w' := hw'.symm
    clear hw'
    go_wp2_with fail
    obtain ⟨m, hm⟩ : ∃ m : Nat, m = 1 + l.length / 2 := ⟨_, rfl⟩
    have HM : Hid (m = 1 + l.length / 2) := hm
    have hml : m ≤ l.length := by have := HL0.out; omega
    have hm1 : 1 ≤ m := by omega
    have hmi : (1 : Int) + (l.length : Int) / 2 = (m : Int) := by omega
    have POST : Hid (∀ W w1 : World, Kept W0 W → Kept W w1 → Kept W0 w1 ∧ w1.cell? ⟨w.heap.size, 0, none⟩ = some (.int .i64 0) ∧ w1.cell? ⟨w.heap.size, 1, none⟩ = some (.int .i64 0) ∧ w1.cell? ⟨w.heap.size, 2, none⟩ = some (.string ⟨#[]⟩) ∧ w1.cell? ⟨w.heap.size, 3, none⟩ = some (.slice none 0 0) ∧ ∀ j, w1.frozen? ⟨w.heap.size, j, none⟩ = false) := by
      intro W w1 hW h3
      have KK : Kept W0 w1 := hW.then h3
      obtain ⟨_, hz, _, z0, z1, z2, z3, zf⟩ := HW0.out
      exact ⟨KK, KK.cellS z0, KK.cellS z1, KK.cellS z2, KK.cellS z3, fun j => (KK.frozen (by simp; omega)).trans (zf j)⟩
    have PE1 : Hid (∀ W, Kept W0 W → Calls Try.prog 25 #[.slice (cutAt (some ⟨b, o, none⟩) 1 cap 1) (m - 1) (cap - 1), .int .i64 (deep + 1)] W fun r w' => ∃ (e1 : Ex) (a1 : Option Addr) (n1 q1 : Nat), r = .returned (.agg #[.int .i64 e1.kind, .int .i64 e1.n, .string e1.name, .slice a1 n1 q1]) ∧ Hid (ExsIn w' W.heap.size w'.heap.size e1.of (.slice a1 n1 q1) ∧ (e1.size = enF (d - 1) ((l.take m).drop 1) ∧ Bn.en e1 = enF (d - 1) ((l.take m).drop 1)) ∧ Kept W w' ∧ Kept W0 w')) := by
      intro W hW
      have h0 := HL0.out
      have hcut := (HA.out.kept (HW0.out.1.then hW)).cut 1 m hm1 hml
      have hlen : ((l.take m).drop 1).length = m - 1 := by simp; omega
      have := HH.out (d - 1) (by omega) ((l.take m).drop 1) W _ (deep + 1) (by omega) (hcut.mono (Nat.le_trans HW0.out.1.size hW.size)) (by omega) (by omega)
      refine this.mono ?_
      rintro r w1 ⟨e1, v1, rfl, h1, h2, h3⟩
      obtain ⟨a1, n1, q1, rfl⟩ := h1.form
      exact ⟨e1, a1, n1, q1, rfl, h1, h2, h3, hW.then h3⟩
    have PE2 : Hid (∀ W, Kept W0 W → Calls Try.prog 25 #[.slice (cutAt (some ⟨b, o, none⟩) m cap 1) (l.length - m) (cap - m), .int .i64 (deep + 1)] W fun r w' => ∃ (e1 : Ex) (a1 : Option Addr) (n1 q1 : Nat), r = .returned (.agg #[.int .i64 e1.kind, .int .i64 e1.n, .string e1.name, .slice a1 n1 q1]) ∧ Hid (ExsIn w' W.heap.size w'.heap.size e1.of (.slice a1 n1 q1) ∧ (e1.size = enF (d - 1) ((l.take l.length).drop m) ∧ Bn.en e1 = enF (d - 1) ((l.take l.length).drop m)) ∧ Kept W w' ∧ Kept W0 w') ∧
        w'.cell? ⟨w.heap.size, 0, none⟩ = some (.int .i64 0) ∧ w'.cell? ⟨w.heap.size, 1, none⟩ = some (.int .i64 0) ∧ w'.cell? ⟨w.heap.size, 2, none⟩ = some (.string ⟨#[]⟩) ∧ w'.cell? ⟨w.heap.size, 3, none⟩ = some (.slice none 0 0) ∧ (∀ j, w'.frozen? ⟨w.heap.size, j, none⟩ = false) ∧ w.heap.size < w'.heap.size) := by
      intro W hW
      have h0 := HL0.out
      have hcut := (HA.out.kept (HW0.out.1.then hW)).cut m l.length hml (Nat.le_refl _)
      have hlen : ((l.take l.length).drop m).length = l.length - m := by simp
      have := HH.out (d - 1) (by omega) ((l.take l.length).drop m) W _ (deep + 1) (by omega) (hcut.mono (Nat.le_trans HW0.out.1.size hW.size)) (by omega) (by omega)
      refine this.mono ?_
      rintro r w1 ⟨e1, v1, rfl, h1, h2, h3⟩
      obtain ⟨a1, n1, q1, rfl⟩ := h1.form
      obtain ⟨KK, z0, z1, z2, z3, zf⟩ := POST.out W w1 hW h3
      exact ⟨e1, a1, n1, q1, rfl, ⟨h1, h2, h3, KK⟩, z0, z1, z2, z3, zf, block_lt_of_cell z0⟩
    have hwr : IntKind.i64.wrap (deep + 1) = deep + 1 := by rw [IntKind.wrap_i64]; omega
    have hm1i : (1 : Int) ≤ (m : Int) := by omega
    have hmli : (m : Int) ≤ (l.length : Int) := by omega
    have hmci : (m : Int) ≤ (cap : Int) := by omega
    have hm0i : (0 : Int) ≤ (m : Int) := by omega
    simp only [hmi]
    clear hm hmi
    go_region_with (first | (go_at_call_of 25 (cutAt (some ⟨b, o, none⟩) 1 cap 1); refine (PE1.out _ (Kept.refl W0).dr).mono ?_; rintro r w1 ⟨e1, a1, n1, q1, rfl, HV⟩) | (go_at_call_of 25 (cutAt (some ⟨b, o, none⟩) m cap 1); refine (PE2.out _ HV.out.2.2.2).mono ?_; rintro r w2 ⟨e2, a2, n2, q2, rfl, HU, z0, z1, z2, z3, zf, hzw⟩))
    go_wp2_with fail
    have HT : w2.there w.heap.size 0 4 := there_of 4 (fun j hj => by
      match j, hj with
      | 0, _ => exact ⟨_, z0⟩
      | 1, _ => exact ⟨_, z1⟩
      | 2, _ => exact ⟨_, z2⟩
      | 3, _ => exact ⟨_, z3⟩) zf
    obtain ⟨f1, f2, f3, f4, f5⟩ := made_fin (cs := (Ex.mk (4 + (p : Int)) 0 ⟨#[]⟩ [e1, e2]).cells (.slice (some ⟨w2.heap.size, 0, none⟩) 2 2)) (HW0.out.1.then HU.out.2.2.2) HT rfl (.cells #[.int .i64 e1.kind, .int .i64 e1.n, .string e1.name, .slice a1 n1 q1, .int .i64 e2.kind, .int .i64 e2.n, .string e2.name, .slice a2 n2 q2] 44)
    refine bodyPost_ret (v := (Ex.mk (4 + (p : Int)) 0 ⟨#[]⟩ [e1, e2]).val (.slice (some ⟨w2.heap.size, 0, none⟩) 2 2)) (w := ((w2.setCells w.heap.size 0 ((Ex.mk (4 + (p : Int)) 0 ⟨#[]⟩ [e1, e2]).cells (.slice (some ⟨w2.heap.size, 0, none⟩) 2 2))).alloc (.cells #[.int .i64 e1.kind, .int .i64 e1.n, .string e1.name, .slice a1 n1 q1, .int .i64 e2.kind, .int .i64 e2.n, .string e2.name, .slice a2 n2 q2] 44))) (made_res _ rfl f2) rfl ⟨_, _, rfl, ?_, ⟨?_, ?_⟩, f1⟩
    · have h2 := HW0.out.2.1
      have hz12 := HU.out.2.2.1.size
      have hz1 := HV.out.2.2.2.size
      refine ExsD.two ⟨by omega, by omega⟩ f3 ?_ ?_
      · exact (((HV.out.1.stays (HU.out.2.2.1.stays (Nat.le_refl _))).mono (Rng.up (by show _ ≤ W0.heap.size; omega) hz12)).stays f5).mono (Rng.up (by omega) (by omega))
      · exact ((HU.out.1.mono (Rng.up (by omega) (Nat.le_refl _))).stays f5).mono (Rng.up (by omega) (by omega))
    · rw [HBI.out hk8 hk88 g6 m HM.out, ← HV.out.2.1.1, ← HU.out.2.1.1, Ex.size_eq]; show 1 + Ex.sizes [e1, e2] = _; simp [Ex.sizes]
    · rw [HBI.out hk8 hk88 g6 m HM.out, ← HV.out.2.1.2, ← HU.out.2.1.2, Bn.en_eq]; show Bn.own (4 + (p : Int)) + Bn.ens [e1, e2] = _
      rw [show Bn.own (4 + (p : Int)) = 1 from if_pos (by omega)]; simp [Bn.ens]
theorem expry_any (d : Nat) : PHy d := by
  induction d with
  | zero => exact expry_of 0 fun m hm => by omega
  | succ d ih => exact expry_of (d + 1) fun m hm => by obtain rfl : m = d := by omega
                                                       exact ih
end Go.Proofs.Ytnfkjmafhaecgaa
