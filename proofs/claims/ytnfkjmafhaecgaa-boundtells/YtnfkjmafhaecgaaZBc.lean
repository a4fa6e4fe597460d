/- Bc -/
import Derived.Test.YtnfkjmafhaecgaaZBb
import Derived.Deep.RegionHeld3

namespace Go.Proofs.Ytnfkjmafhaecgaa
open Go.RowKit Bn
attribute [local go_sem] run_store_complex
/-- Numbers of statements are numbers; expressions are small. -/
def NumS (s : St) : Prop := -9223372036854775808 ≤ s.n ∧ s.n ≤ 9223372036854775807 ∧ s.e.size ≤ 1073741824
def NumL (l : List St) : Prop := ∀ x ∈ St.flats l, NumS x
theorem NumL.own {l : List St} (h : NumL l) {s : St} (hs : s ∈ l) : NumS s ∧ NumL s.body ∧ NumL s.els := by
  have hf : ∀ x ∈ St.flat s, NumS x := by
    intro x hx
    refine h x ?_
    clear h
    induction l with
    | nil => cases hs
    | cons a l ih =>
      rw [St.flats, List.mem_append]
      rcases List.mem_cons.1 hs with rfl | hs
      · exact .inl hx
      · exact .inr (ih hs)
  rw [St.flat_eq] at hf
  exact ⟨hf s (List.mem_cons_self ..), fun x hx => hf x (List.mem_cons_of_mem _ (List.mem_append.2 (.inl hx))), fun x hx => hf x (List.mem_cons_of_mem _ (List.mem_append.2 (.inr hx)))⟩
/-- What bound.block tells of l. -/
def PBk (l : List St) : Prop := ∀ (w : World) (bv : Value), StsIn w 0 w.heap.size l bv → NumL l →
  Calls Try.prog 38 #[bv] w fun r w' => r = .returned (.int .i64 (cap (sns l) : Int)) ∧ Kept w w'
set_option maxRecDepth 100000 in
set_option maxHeartbeats 2000000 in
/-- What bound.stmt tells of s. -/
theorem bstmt_of (s : St) (H : PBk s.body ∧ PBk s.els) (w : World) (a1 a2 a3 : Option Addr) (n1 n2 n3 q1 q2 q3 : Nat)
    (h1 : ExsIn w 0 w.heap.size s.e.of (.slice a1 n1 q1)) (h2 : StsIn w 0 w.heap.size s.body (.slice a2 n2 q2)) (h3 : StsIn w 0 w.heap.size s.els (.slice a3 n3 q3))
    (hn : NumS s) (hnb : NumL s.body) (hne : NumL s.els) :
    Calls Try.prog 55 #[.agg #[.int .i64 s.kind, .string s.name, .string s.other, .int .i64 s.n, .int .i64 s.e.kind, .int .i64 s.e.n, .string s.e.name, .slice a1 n1 q1, .slice a2 n2 q2, .slice a3 n3 q3, .complex .f64 s.re s.im]] w fun r w' => r = .returned (.int .i64 (cap (sn s) : Int)) ∧ Kept w w' := by
  have HSN := sn_eq s
  have hz0 : w.heap.size ≤ w.heap.size := Nat.le_refl _
  have GE : Hid (∀ W, Kept w W → Calls Try.prog 22 #[.agg #[.int .i64 s.e.kind, .int .i64 s.e.n, .string s.e.name, .slice a1 n1 q1]] W fun r w' => r = .returned (.int .i64 (cap (en s.e) : Int)) ∧ Kept W w') :=
    fun W hW => bexpr_any s.e W _ (h1.up hz0 hW)
  have GB : Hid (∀ W, Kept w W → Calls Try.prog 38 #[.slice a2 n2 q2] W fun r w' => r = .returned (.int .i64 (cap (sns s.body) : Int)) ∧ Kept W w') :=
    fun W hW => H.1 W _ (h2.up hz0 hW) hnb
  have GL : Hid (∀ W, Kept w W → Calls Try.prog 38 #[.slice a3 n3 q3] W fun r w' => r = .returned (.int .i64 (cap (sns s.els) : Int)) ∧ Kept W w') :=
    fun W hW => H.2 W _ (h3.up hz0 hW) hne
  obtain ⟨a, c, e, hl, hl2, hcap⟩ := h3.open
  cases e
  obtain ⟨hn1, hn2, -⟩ := hn
  obtain ⟨vE, hE⟩ : ∃ v, cap (en s.e) = v := ⟨_, rfl⟩
  obtain ⟨vB, hB⟩ : ∃ v, cap (sns s.body) = v := ⟨_, rfl⟩
  obtain ⟨vL, hL⟩ : ∃ v, cap (sns s.els) = v := ⟨_, rfl⟩
  have hvE : vE ≤ 2147483647 := hE ▸ cap_le _
  have hvB : vB ≤ 2147483647 := hB ▸ cap_le _
  have hvL : vL ≤ 2147483647 := hL ▸ cap_le _
  have HE : Hid (cap (en s.e) = vE) := hE
  have HB : Hid (cap (sns s.body) = vB) := hB
  have HL : Hid (cap (sns s.els) = vL) := hL
  rw [hE] at GE
  rw [hB] at GB
  rw [hL] at GL
  clear h1 h2 h3 hnb hne H hE hB hL hz0
  have hkk : (s.kind = 1 ∨ s.kind = 4 ∨ s.kind = 6) ∨ (s.kind = 2 ∨ s.kind = 3 ∨ s.kind = 9) ∨ s.kind = 5 ∨ s.kind = 7 ∨ s.kind = 8 ∨ (¬ s.kind = 1 ∧ ¬ s.kind = 4 ∧ ¬ s.kind = 6 ∧ ¬ s.kind = 2 ∧ ¬ s.kind = 3 ∧ ¬ s.kind = 9 ∧ ¬ s.kind = 5 ∧ ¬ s.kind = 7 ∧ ¬ s.kind = 8) := by
    omega
  rcases hkk with h | h | h | h | h | ⟨h1, h4, h6, h2, h3, h9, h5, h7, h8⟩
  · have HA : Hid (cap (sn s) = cap (1 + vE)) := by show _ = _; rw [HSN, if_pos h, ← HE.out, Nat.add_comm 1, Nat.add_comm 1, cap_addl]
    clear HSN
    obtain ⟨vA, hvA⟩ : ∃ v, cap (1 + vE) = v := ⟨_, rfl⟩
    rcases h with h | h | h
    · rw [h]
      clear h
      go_enter Try.func55, Try.ntmps55
      go_wp2_with fail
      refine (GE.out _ ((Kept.refl w).al _)).mono ?_
      rintro r w6 ⟨rfl, kw⟩
      have KF : Hid (Kept w w6) := ((Kept.refl w).al _).then kw
      clear kw
      go_wp2_with fail
      refine (bplus_any 1 vE (by omega) hvE _).mono ?_
      rintro r w7 ⟨rfl, rfl⟩
      rw [hvA]
      go_wp2_with fail
      go_ret
      exact ⟨ret_int (by rw [HA.out, hvA]), KF.out⟩
    · rw [h]
      clear h
      go_enter Try.func55, Try.ntmps55
      go_wp2_with fail
      refine (GE.out _ ((Kept.refl w).al _)).mono ?_
      rintro r w6 ⟨rfl, kw⟩
      have KF : Hid (Kept w w6) := ((Kept.refl w).al _).then kw
      clear kw
      go_wp2_with fail
      refine (bplus_any 1 vE (by omega) hvE _).mono ?_
      rintro r w7 ⟨rfl, rfl⟩
      rw [hvA]
      go_wp2_with fail
      go_ret
      exact ⟨ret_int (by rw [HA.out, hvA]), KF.out⟩
    · rw [h]
      clear h
      go_enter Try.func55, Try.ntmps55
      go_wp2_with fail
      refine (GE.out _ ((Kept.refl w).al _)).mono ?_
      rintro r w6 ⟨rfl, kw⟩
      have KF : Hid (Kept w w6) := ((Kept.refl w).al _).then kw
      clear kw
      go_wp2_with fail
      refine (bplus_any 1 vE (by omega) hvE _).mono ?_
      rintro r w7 ⟨rfl, rfl⟩
      rw [hvA]
      go_wp2_with fail
      go_ret
      exact ⟨ret_int (by rw [HA.out, hvA]), KF.out⟩
  · have HA : Hid (cap (sn s) = 1) := by show _ = _; rw [HSN, if_neg (by omega), if_pos h]; rfl
    clear HSN
    rcases h with h | h | h
    · rw [h]
      clear h
      go_enter Try.func55, Try.ntmps55
      go_wp2_with fail
      go_ret
      exact ⟨ret_int (by rw [HA.out]; rfl), (Kept.refl w).al _⟩
    · rw [h]
      clear h
      go_enter Try.func55, Try.ntmps55
      go_wp2_with fail
      go_ret
      exact ⟨ret_int (by rw [HA.out]; rfl), (Kept.refl w).al _⟩
    · rw [h]
      clear h
      go_enter Try.func55, Try.ntmps55
      go_wp2_with fail
      go_ret
      exact ⟨ret_int (by rw [HA.out]; rfl), (Kept.refl w).al _⟩
  · have HA : Hid (cap (sn s) = 2) := by show _ = _; rw [HSN, if_neg (by omega), if_neg (by omega), if_pos h]; rfl
    clear HSN
    rw [h]
    clear h
    go_enter Try.func55, Try.ntmps55
    go_wp2_with fail
    go_ret
    exact ⟨ret_int (by rw [HA.out]; rfl), (Kept.refl w).al _⟩
  · have HA : Hid (cap (sn s) = cap (1 + en s.e + sns s.body + (if s.els.length = 0 then 0 else 1 + sns s.els))) := by show _ = _; rw [HSN, if_neg (by omega), if_neg (by omega), if_neg (by omega), if_pos h]
    clear HSN
    rw [h]
    clear h
    obtain ⟨vA, hvA⟩ : ∃ v, cap (1 + vE) = v := ⟨_, rfl⟩
    obtain ⟨vC, hvC⟩ : ∃ v, cap (vA + vB) = v := ⟨_, rfl⟩
    have hvA2 : vA ≤ 2147483647 := hvA ▸ cap_le _
    have hvC2 : vC ≤ 2147483647 := hvC ▸ cap_le _
    have P1 : Hid (∀ W, Calls Try.prog 39 #[.int .i64 1, .int .i64 (vE : Int)] W fun r w' => r = .returned (.int .i64 (vA : Int)) ∧ w' = W) := by
      intro W; have := bplus_any 1 vE (by omega) hvE W; rwa [hvA] at this
    have P2 : Hid (∀ W, Calls Try.prog 39 #[.int .i64 (vA : Int), .int .i64 (vB : Int)] W fun r w' => r = .returned (.int .i64 (vC : Int)) ∧ w' = W) := by
      intro W; have := bplus_any vA vB hvA2 hvB W; rwa [hvC] at this
    have HC : Hid (vC = cap (1 + en s.e + sns s.body)) := by
      show _ = _
      rw [← hvC, ← hvA, ← HE.out, ← HB.out, cap_if]
    clear hvA hvC
    go_enter Try.func55, Try.ntmps55
    go_wp2_with fail
    have e4 : (w.alloc (.cells #[.int .i64 7, .string s.name, .string s.other, .int .i64 s.n, .int .i64 s.e.kind, .int .i64 s.e.n, .string s.e.name, .slice a1 n1 q1, .slice a2 n2 q2, .slice a3 s.els.length q3, .complex .f64 s.re s.im] 46)).cell? ⟨w.heap.size, 4, none⟩ = some (.int .i64 s.e.kind) := by simp
    have e5 : (w.alloc (.cells #[.int .i64 7, .string s.name, .string s.other, .int .i64 s.n, .int .i64 s.e.kind, .int .i64 s.e.n, .string s.e.name, .slice a1 n1 q1, .slice a2 n2 q2, .slice a3 s.els.length q3, .complex .f64 s.re s.im] 46)).cell? ⟨w.heap.size, 5, none⟩ = some (.int .i64 s.e.n) := by simp
    have e6 : (w.alloc (.cells #[.int .i64 7, .string s.name, .string s.other, .int .i64 s.n, .int .i64 s.e.kind, .int .i64 s.e.n, .string s.e.name, .slice a1 n1 q1, .slice a2 n2 q2, .slice a3 s.els.length q3, .complex .f64 s.re s.im] 46)).cell? ⟨w.heap.size, 6, none⟩ = some (.string s.e.name) := by simp
    have e7 : (w.alloc (.cells #[.int .i64 7, .string s.name, .string s.other, .int .i64 s.n, .int .i64 s.e.kind, .int .i64 s.e.n, .string s.e.name, .slice a1 n1 q1, .slice a2 n2 q2, .slice a3 s.els.length q3, .complex .f64 s.re s.im] 46)).cell? ⟨w.heap.size, 7, none⟩ = some (.slice a1 n1 q1) := by simp
    have e8 : (w.alloc (.cells #[.int .i64 7, .string s.name, .string s.other, .int .i64 s.n, .int .i64 s.e.kind, .int .i64 s.e.n, .string s.e.name, .slice a1 n1 q1, .slice a2 n2 q2, .slice a3 s.els.length q3, .complex .f64 s.re s.im] 46)).cell? ⟨w.heap.size, 8, none⟩ = some (.slice a2 n2 q2) := by simp
    have e9 : (w.alloc (.cells #[.int .i64 7, .string s.name, .string s.other, .int .i64 s.n, .int .i64 s.e.kind, .int .i64 s.e.n, .string s.e.name, .slice a1 n1 q1, .slice a2 n2 q2, .slice a3 s.els.length q3, .complex .f64 s.re s.im] 46)).cell? ⟨w.heap.size, 9, none⟩ = some (.slice a3 s.els.length q3) := by simp
    obtain ⟨W1, hW1⟩ : ∃ W1, w.alloc (.cells #[.int .i64 7, .string s.name, .string s.other, .int .i64 s.n, .int .i64 s.e.kind, .int .i64 s.e.n, .string s.e.name, .slice a1 n1 q1, .slice a2 n2 q2, .slice a3 s.els.length q3, .complex .f64 s.re s.im] 46) = W1 := ⟨_, rfl⟩
    have KW : Hid (Kept w W1) := by rw [← hW1]; exact (Kept.refl _).al _
    rw [hW1] at e4 e5 e6 e7 e8 e9 ⊢
    clear hW1
    go_region_held3 (fun w' => Hid (Kept W1 w') ∧ w'.cell? ⟨w.heap.size, 4, none⟩ = some (.int .i64 s.e.kind) ∧ w'.cell? ⟨w.heap.size, 5, none⟩ = some (.int .i64 s.e.n) ∧ w'.cell? ⟨w.heap.size, 6, none⟩ = some (.string s.e.name) ∧ w'.cell? ⟨w.heap.size, 7, none⟩ = some (.slice a1 n1 q1) ∧ w'.cell? ⟨w.heap.size, 8, none⟩ = some (.slice a2 n2 q2) ∧ w'.cell? ⟨w.heap.size, 9, none⟩ = some (.slice a3 s.els.length q3))
      ((first | (have KK : Kept W1 _ := (((Kept.refl W1).dr).then kw).then kw2; exact ⟨KK, KK.cellS e4, KK.cellS e5, KK.cellS e6, KK.cellS e7, KK.cellS e8, KK.cellS e9⟩) | (have KK : Kept W1 _ := ((Kept.refl W1).dr).then kw; exact ⟨KK, KK.cellS e4, KK.cellS e5, KK.cellS e6, KK.cellS e7, KK.cellS e8, KK.cellS e9⟩) | (have KK : Kept W1 _ := (Kept.refl W1).dr; exact ⟨KK, KK.cellS e4, KK.cellS e5, KK.cellS e6, KK.cellS e7, KK.cellS e8, KK.cellS e9⟩)))
      (first | (go_at_call_of 22 (Value.agg #[.int .i64 s.e.kind, .int .i64 s.e.n, .string s.e.name, .slice a1 n1 q1]); refine (GE.out _ (KW.out.then (Kept.refl W1).dr)).mono ?_; rintro e w3 ⟨rfl, kw⟩) | (go_at_call_of 38 (Value.slice a2 n2 q2); refine (GB.out _ (KW.out.then (((Kept.refl W1).dr).then kw))).mono ?_; rintro e w4 ⟨rfl, kw2⟩) | (go_at_call_of 39 (Value.int .i64 1); refine (P1.out _).mono ?_; rintro e w5 ⟨rfl, hw5⟩; obtain rfl := hw5.symm) | (go_at_call_of 39 (Value.int .i64 (vA : Int)); refine (P2.out _).mono ?_; rintro e w5 ⟨rfl, hw5⟩; obtain rfl := hw5.symm))
    rename_i hH
    clear hH
    have KX : Hid (Kept w w4) := KW.out.then ((((Kept.refl W1).dr).then kw).then kw2)
    have e9' : w4.cell? ⟨w.heap.size, 9, none⟩ = some (.slice a3 s.els.length q3) := ((((Kept.refl W1).dr).then kw).then kw2).cellS e9
    clear kw kw2 e4 e5 e6 e7 e8 e9 KW P1 P2
    by_cases h0 : s.els.length = 0
    · have hgt : ¬ ((s.els.length : Int) > 0) := by omega
      go_wp2_with fail
      go_ret
      exact ⟨ret_int (by rw [HA.out, if_pos h0, HC.out, Nat.add_zero]), KX.out⟩
    · have hgt : ((s.els.length : Int) > 0) := by omega
      obtain ⟨vD, hvD⟩ : ∃ v, cap (vC + 1) = v := ⟨_, rfl⟩
      obtain ⟨vF, hvF⟩ : ∃ v, cap (vD + vL) = v := ⟨_, rfl⟩
      have hvD2 : vD ≤ 2147483647 := hvD ▸ cap_le _
      have P3 : Hid (∀ W, Calls Try.prog 39 #[.int .i64 (vC : Int), .int .i64 1] W fun r w' => r = .returned (.int .i64 (vD : Int)) ∧ w' = W) := by
        intro W; have := bplus_any vC 1 hvC2 (by omega) W; rwa [hvD] at this
      have P4 : Hid (∀ W, Calls Try.prog 39 #[.int .i64 (vD : Int), .int .i64 (vL : Int)] W fun r w' => r = .returned (.int .i64 (vF : Int)) ∧ w' = W) := by
        intro W; have := bplus_any vD vL hvD2 hvL W; rwa [hvF] at this
      have HF : Hid (cap (sn s) = vF) := by
        show _ = _
        rw [HA.out, if_neg h0, ← hvF, ← hvD, HC.out, ← HL.out, cap_else]
      clear hvD hvF
      go_wp2_with fail
      go_region_held3 (fun w' => Hid (Kept w4 w') ∧ w'.cell? ⟨w.heap.size, 9, none⟩ = some (.slice a3 s.els.length q3))
        ((first | (have KK : Kept w4 _ := ((Kept.refl w4).dr).then kw; exact ⟨KK, KK.cellS e9'⟩) | (have KK : Kept w4 _ := (Kept.refl w4).dr; exact ⟨KK, KK.cellS e9'⟩)))
        (first | (go_at_call_of 38 (Value.slice a3 s.els.length q3); refine (GL.out _ (KX.out.then (Kept.refl w4).dr)).mono ?_; rintro e w6 ⟨rfl, kw⟩) | (go_at_call_of 39 (Value.int .i64 (vC : Int)); refine (P3.out _).mono ?_; rintro e w5 ⟨rfl, hw5⟩; obtain rfl := hw5.symm) | (go_at_call_of 39 (Value.int .i64 (vD : Int)); refine (P4.out _).mono ?_; rintro e w5 ⟨rfl, hw5⟩; obtain rfl := hw5.symm))
      rename_i hH
      clear hH
      have KZ : Hid (Kept w w6) := KX.out.then (((Kept.refl w4).dr).then kw)
      clear kw e9'
      go_wp2_with fail
      go_ret
      exact ⟨ret_int (by rw [HF.out]), KZ.out⟩
  · have HA : Hid (cap (sn s) = cap (s.n.toNat * vB)) := by show _ = _; rw [HSN, if_neg (by omega), if_neg (by omega), if_neg (by omega), if_neg (by omega), if_pos h, ← HB.out, cap_mul]
    clear HSN
    rw [h]
    clear h
    obtain ⟨vT, hvT⟩ : ∃ v, cap (s.n.toNat * vB) = v := ⟨_, rfl⟩
    have P1 : Hid (∀ W, Calls Try.prog 63 #[.int .i64 s.n, .int .i64 (vB : Int)] W fun r w' => r = .returned (.int .i64 (vT : Int)) ∧ w' = W) := by
      intro W; have := btimes_any s.n vB hn1 hn2 hvB W; rwa [hvT] at this
    have HF : Hid (cap (sn s) = vT) := by show _ = _; rw [HA.out, hvT]
    clear hvT
    go_enter Try.func55, Try.ntmps55
    go_wp2_with fail
    have e3 : (w.alloc (.cells #[.int .i64 8, .string s.name, .string s.other, .int .i64 s.n, .int .i64 s.e.kind, .int .i64 s.e.n, .string s.e.name, .slice a1 n1 q1, .slice a2 n2 q2, .slice a3 s.els.length q3, .complex .f64 s.re s.im] 46)).cell? ⟨w.heap.size, 3, none⟩ = some (.int .i64 s.n) := by simp
    have e8 : (w.alloc (.cells #[.int .i64 8, .string s.name, .string s.other, .int .i64 s.n, .int .i64 s.e.kind, .int .i64 s.e.n, .string s.e.name, .slice a1 n1 q1, .slice a2 n2 q2, .slice a3 s.els.length q3, .complex .f64 s.re s.im] 46)).cell? ⟨w.heap.size, 8, none⟩ = some (.slice a2 n2 q2) := by simp
    obtain ⟨W1, hW1⟩ : ∃ W1, w.alloc (.cells #[.int .i64 8, .string s.name, .string s.other, .int .i64 s.n, .int .i64 s.e.kind, .int .i64 s.e.n, .string s.e.name, .slice a1 n1 q1, .slice a2 n2 q2, .slice a3 s.els.length q3, .complex .f64 s.re s.im] 46) = W1 := ⟨_, rfl⟩
    have KW : Hid (Kept w W1) := by rw [← hW1]; exact (Kept.refl _).al _
    rw [hW1] at e3 e8 ⊢
    clear hW1
    go_region_held3 (fun w' => Hid (Kept W1 w') ∧ w'.cell? ⟨w.heap.size, 3, none⟩ = some (.int .i64 s.n) ∧ w'.cell? ⟨w.heap.size, 8, none⟩ = some (.slice a2 n2 q2))
      ((first | (have KK : Kept W1 _ := ((Kept.refl W1).dr).then kw; exact ⟨KK, KK.cellS e3, KK.cellS e8⟩) | (have KK : Kept W1 _ := (Kept.refl W1).dr; exact ⟨KK, KK.cellS e3, KK.cellS e8⟩)))
      (first | (go_at_call_of 38 (Value.slice a2 n2 q2); refine (GB.out _ (KW.out.then (Kept.refl W1).dr)).mono ?_; rintro e w6 ⟨rfl, kw⟩) | (go_at_call_of 63 (Value.int .i64 s.n); refine (P1.out _).mono ?_; rintro e w5 ⟨rfl, hw5⟩; obtain rfl := hw5.symm))
    rename_i hH
    clear hH
    have KZ : Hid (Kept w w6) := KW.out.then (((Kept.refl W1).dr).then kw)
    clear kw e3 e8
    go_wp2_with fail
    go_ret
    exact ⟨ret_int (by rw [HF.out]), KZ.out⟩
  · have HA : Hid (cap (sn s) = 0) := by show _ = _; rw [HSN, if_neg (by omega), if_neg (by omega), if_neg (by omega), if_neg (by omega), if_neg (by omega)]; rfl
    clear HSN
    go_enter Try.func55, Try.ntmps55
    go_wp2_with fail
    go_ret
    exact ⟨ret_int (by rw [HA.out]; rfl), (Kept.refl w).al _⟩
end Go.Proofs.Ytnfkjmafhaecgaa
