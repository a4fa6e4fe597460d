/- What Touches answers. -/
import Derived.Test.YtoaaikbplnpmmaaRn
import Derived.Deep.RegionHeld3
namespace Go.Proofs.Ytoaaikbplnpmmaa
open Go.RowKit
attribute [local go_sem] run_store_complex

theorem step_append_rows {P : Program} {w : World} {ops : Array Oper} {o : Oper} {a : Act} {K : Act → World → Prop} {Q : Exit → Act → World → Prop} {Ee : Prop} (hgd : o.guard = none) (s x : Operand) (t : TypeId)
    (ho : o.op = .call { callee := .builtin .append, args := #[s, x], argTypes := #[t, t] })
    {e : TypeId} {z : Value} {size bytes : Nat} (E : ElemOf P t e z size bytes) {base : Nat} {v : Value} {n : Nat} {xs : List Value} (hs : a.eval s = v) (hown : w.ownsRow base e size v n xs)
    {base' : Nat} {vs : Value} {m : Nat} {news : List Value} (hx : a.eval x = vs) (hsrc : w.ownsRow base' e size vs m news) (h1 : ∀ u ∈ news, u.oneCell' = true) (hb : (n + m) * bytes ≤ 140737488355328) (h63 : n + m ≤ maxLen) (hbase : base ≤ w.heap.size)
    (h : ∀ ad cap w', Hid (Grew w base e size v n xs m news (.slice ad (n + m) cap) w') → K (a.put o.dst (.slice ad (n + m) cap)) w') :
    if Region.wanted o (yielded ops a.tmps) = true then Oper.wp P o a w K Q else Ee := by
  have hw : Region.wanted o (yielded ops a.tmps) = true := by simp [Region.wanted, hgd]
  rw [if_pos hw]
  obtain ⟨v', w', hr, hG⟩ := run_append_rows E o.type hown hsrc h1 hb h63 hbase
  obtain ⟨ad, cap, rfl, _⟩ := own_slice hG.own
  unfold Oper.wp execOp
  simp only [ho, resolve, invoke, builtin, Sem.run_bind, Sem.run_pure, Result.andThen_ok, List.map_toArray, List.map_cons, List.map_nil, hs, hx, hr]
  exact h ad cap w' hG

def St.touches (s : St) : List ByteArray := if s.kind = 1 then s.e.names ++ [s.name] else if s.kind = 4 ∨ s.kind = 6 ∨ s.kind = 7 then s.e.names else if s.kind = 5 then [s.other] else []

set_option maxRecDepth 100000 in
set_option maxHeartbeats 2000000 in
theorem touches_any (s : St) (w : World) (ev bv lv : Value) (he : ExsIn w 0 w.heap.size s.e.of ev) (hb : StsIn w 0 w.heap.size s.body bv) (hl : StsIn w 0 w.heap.size s.els lv) (hn : s.e.size ≤ 1073741823) :
    Calls Try.prog 12 #[s.val ev bv lv] w fun r w' => ∃ v', r = .returned v' ∧ ValsD w' (Rng w.heap.size w'.heap.size) (strs s.touches) v' ∧ Kept w w' := by
  obtain ⟨a1, n1, q1, rfl⟩ := he.form
  obtain ⟨a2, n2, q2, rfl⟩ := hb.form
  obtain ⟨a3, n3, q3, rfl⟩ := hl.form
  have PN : Hid (∀ W, Kept w W → Calls Try.prog 21 #[.agg #[.int .i64 s.e.kind, .int .i64 s.e.n, .string s.e.name, .slice a1 n1 q1]] W fun r w' => ∃ a8 n8 q8, r = .returned (.slice a8 n8 q8) ∧ Hid (OwnT w' W.heap.size s.e.names (.slice a8 n8 q8) ∧ Kept W w')) := by
    intro W hW
    refine (names_any s.e W _ (he.up (Nat.le_refl _) hW) (by omega)).mono ?_
    rintro r w6 ⟨v6, rfl, ho6, hg6⟩
    obtain ⟨a8, q8, rfl, -⟩ := own_slice ho6.row
    exact ⟨a8, _, q8, rfl, ho6, hg6⟩
  have hnl := Ex.names_len s.e
  have hnl2 : s.e.names.length ≤ 1073741823 := by omega
  clear he hb hl hnl
  unfold St.val
  cases h1 : (s.kind == 1) with
  | true =>
    have HT : Hid (s.touches = s.e.names ++ [s.name]) := by unfold St.touches; rw [if_pos (by simpa using h1)]; rfl
    go_enter Try.func12, Try.ntmps12
    go_wp2_with fail
    obtain ⟨W0, hW0⟩ : ∃ W0, w.alloc (.cells #[.int .i64 s.kind, .string s.name, .string s.other, .int .i64 s.n, .int .i64 s.e.kind, .int .i64 s.e.n, .string s.e.name, .slice a1 n1 q1, .slice a2 n2 q2, .slice a3 n3 q3, .complex .f64 s.re s.im] 29) = W0 := ⟨_, rfl⟩
    have b1 : W0.cell? ⟨w.heap.size, 1, none⟩ = some (.string s.name) := by rw [← hW0]; simp
    have b4 : W0.cell? ⟨w.heap.size, 4, none⟩ = some (.int .i64 s.e.kind) := by rw [← hW0]; simp
    have b5 : W0.cell? ⟨w.heap.size, 5, none⟩ = some (.int .i64 s.e.n) := by rw [← hW0]; simp
    have b6 : W0.cell? ⟨w.heap.size, 6, none⟩ = some (.string s.e.name) := by rw [← hW0]; simp
    have b7 : W0.cell? ⟨w.heap.size, 7, none⟩ = some (.slice a1 n1 q1) := by rw [← hW0]; simp
    have KW : Hid (Kept w W0) := by rw [← hW0]; exact (Kept.refl w).al _
    rw [hW0]
    clear hW0
    obtain ⟨ns, hns⟩ : ∃ ns, s.e.names = ns := ⟨_, rfl⟩
    rw [hns] at PN HT hnl2
    clear hns
    have SS : Hid (∀ w', Kept W0 w' → Hid (Kept W0 w') ∧ w'.cell? ⟨w.heap.size, 1, none⟩ = some (.string s.name) ∧ w'.cell? ⟨w.heap.size, 4, none⟩ = some (.int .i64 s.e.kind) ∧ w'.cell? ⟨w.heap.size, 5, none⟩ = some (.int .i64 s.e.n) ∧ w'.cell? ⟨w.heap.size, 6, none⟩ = some (.string s.e.name) ∧ w'.cell? ⟨w.heap.size, 7, none⟩ = some (.slice a1 n1 q1)) := fun w' KK => ⟨KK, KK.cellS b1, KK.cellS b4, KK.cellS b5, KK.cellS b6, KK.cellS b7⟩
    have PN0 : Hid (∀ W, Kept W0 W → Calls Try.prog 21 #[.agg #[.int .i64 s.e.kind, .int .i64 s.e.n, .string s.e.name, .slice a1 n1 q1]] W fun r w' => ∃ a8 n8 q8, r = .returned (.slice a8 n8 q8) ∧ Hid (OwnT w' W0.heap.size ns (.slice a8 n8 q8) ∧ Kept W w' ∧ Kept W0 w')) := by
      intro W hW
      refine (PN.out W (KW.out.then hW)).mono ?_
      rintro r w6 ⟨a8, n8, q8, rfl, h6⟩
      exact ⟨a8, n8, q8, rfl, h6.out.1.low hW.size, h6.out.2, hW.then h6.out.2⟩
    have SRC : Hid (∀ w', Kept (W0.drew.alloc (.cells #[.string s.name] 9)) w' → w'.ownsRow 0 9 1 (.slice (some ⟨W0.heap.size, 0, none⟩) 1 1) 1 [.string s.name]) := fun w' k =>
      (own_lit (w := W0.drew) 0 9 1 #[.string s.name] rfl (Nat.zero_le _)).kept (Grow.kept (.slice none 0 0) k).grown (by simp [Value.ownBlock])
    go_region_held3 (fun w' => Hid (Kept W0 w') ∧ w'.cell? ⟨w.heap.size, 1, none⟩ = some (.string s.name) ∧ w'.cell? ⟨w.heap.size, 4, none⟩ = some (.int .i64 s.e.kind) ∧ w'.cell? ⟨w.heap.size, 5, none⟩ = some (.int .i64 s.e.n) ∧ w'.cell? ⟨w.heap.size, 6, none⟩ = some (.string s.e.name) ∧ w'.cell? ⟨w.heap.size, 7, none⟩ = some (.slice a1 n1 q1))
      (first
        | exact SS.out _ kz.out.1
        | exact SS.out _ (HS.out.2.2.al _)
        | exact SS.out _ HS.out.2.2
        | exact SS.out _ (((Kept.refl W0).dr).al _)
        | exact SS.out _ ((Kept.refl W0).dr))
      (first
        | (go_at_call 21; refine (PN0.out _ ((Kept.refl W0).dr)).mono ?_; rintro e w3 ⟨a8, n8, q8, rfl, HS⟩)
        | (go_at_call 21; refine (PN0.out _ ((Kept.refl W0).dr.al _)).mono ?_; rintro e w3 ⟨a8, n8, q8, rfl, HS⟩)
        | (refine step_append_rows (base := W0.heap.size) (n := ns.length) (xs := strs ns) (by rfl) _ _ _ (by rfl) elemStr (by rfl) (HS.out.1.kept ((Kept.refl w3).al _)).row (by rfl) (own_lit 0 9 1 _ (by rfl) (Nat.zero_le _)) (fun u hu => by simp at hu; subst hu; rfl) (by omega) (by unfold maxLen; omega) (HS.out.1.kept ((Kept.refl w3).al _)).le ?_; intro ad4 cap4 w4 HG; have kz : Hid (Kept W0 w4 ∧ OwnT w4 W0.heap.size (ns ++ [s.name]) (.slice ad4 (ns.length + 1) cap4)) := ⟨HG.out.below (HS.out.1.kept ((Kept.refl w3).al _)).row (Nat.le_refl _) (HS.out.1.kept ((Kept.refl w3).al _)).le (HS.out.2.2.al _), (HS.out.1.kept ((Kept.refl w3).al _)).grew (ys := [s.name]) HG.out⟩)
        | (refine step_append_rows (base := W0.heap.size) (n := ns.length) (xs := strs ns) (by rfl) _ _ _ (by rfl) elemStr (by rfl) HS.out.1.row (by rfl) (SRC.out _ HS.out.2.1) (fun u hu => by simp at hu; subst hu; rfl) (by omega) (by unfold maxLen; omega) HS.out.1.le ?_; intro ad4 cap4 w4 HG; have kz : Hid (Kept W0 w4 ∧ OwnT w4 W0.heap.size (ns ++ [s.name]) (.slice ad4 (ns.length + 1) cap4)) := ⟨HG.out.below HS.out.1.row (Nat.le_refl _) HS.out.1.le HS.out.2.2, HS.out.1.grew (ys := [s.name]) HG.out⟩))
    all_goals
      rename_i hH
      clear hH
      have HF : Hid (ValsD w4 (Rng w.heap.size w4.heap.size) (strs s.touches) (.slice ad4 (ns.length + 1) cap4) ∧ Kept w w4) := by
        rw [HT.out]
        exact ⟨(kz.out.2.low KW.out.size).vals, KW.out.then kz.out.1⟩
      go_wp2_with fail
      go_ret
      exact ⟨_, rfl, HF.out.1, HF.out.2⟩
  | false =>
  cases h4 : (s.kind == 4) with
  | true =>
    have HT : Hid (s.touches = s.e.names) := by unfold St.touches; rw [if_neg (by simpa using h1), if_pos (by have := h4; simp at this; omega)]; rfl
    go_enter Try.func12, Try.ntmps12
    go_wp2_with fail
    refine (PN.out _ ((Kept.refl w).al _)).mono ?_
    rintro r w6 ⟨a8, n8, q8, rfl, HS⟩
    have HF : Hid (ValsD w6 (Rng w.heap.size w6.heap.size) (strs s.touches) (.slice a8 n8 q8) ∧ Kept w w6) := by
      rw [HT.out]
      exact ⟨(HS.out.1.low ((Kept.refl w).al _ : Kept w _).size).vals, ((Kept.refl w).al _).then HS.out.2⟩
    go_wp2_with fail
    go_ret
    exact ⟨_, rfl, HF.out.1, HF.out.2⟩
  | false =>
  cases h6 : (s.kind == 6) with
  | true =>
    have HT : Hid (s.touches = s.e.names) := by unfold St.touches; rw [if_neg (by simpa using h1), if_pos (by have := h6; simp at this; omega)]; rfl
    go_enter Try.func12, Try.ntmps12
    go_wp2_with fail
    refine (PN.out _ ((Kept.refl w).al _)).mono ?_
    rintro r w6 ⟨a8, n8, q8, rfl, HS⟩
    have HF : Hid (ValsD w6 (Rng w.heap.size w6.heap.size) (strs s.touches) (.slice a8 n8 q8) ∧ Kept w w6) := by
      rw [HT.out]
      exact ⟨(HS.out.1.low ((Kept.refl w).al _ : Kept w _).size).vals, ((Kept.refl w).al _).then HS.out.2⟩
    go_wp2_with fail
    go_ret
    exact ⟨_, rfl, HF.out.1, HF.out.2⟩
  | false =>
  cases h7 : (s.kind == 7) with
  | true =>
    have HT : Hid (s.touches = s.e.names) := by unfold St.touches; rw [if_neg (by simpa using h1), if_pos (by have := h7; simp at this; omega)]; rfl
    go_enter Try.func12, Try.ntmps12
    go_wp2_with fail
    refine (PN.out _ ((Kept.refl w).al _)).mono ?_
    rintro r w6 ⟨a8, n8, q8, rfl, HS⟩
    have HF : Hid (ValsD w6 (Rng w.heap.size w6.heap.size) (strs s.touches) (.slice a8 n8 q8) ∧ Kept w w6) := by
      rw [HT.out]
      exact ⟨(HS.out.1.low ((Kept.refl w).al _ : Kept w _).size).vals, ((Kept.refl w).al _).then HS.out.2⟩
    go_wp2_with fail
    go_ret
    exact ⟨_, rfl, HF.out.1, HF.out.2⟩
  | false =>
  have hno : ¬ (s.kind = 4 ∨ s.kind = 6 ∨ s.kind = 7) := by simp at h4 h6 h7; omega
  cases h5 : (s.kind == 5) with
  | true =>
    have HT : Hid (s.touches = [s.other]) := by unfold St.touches; rw [if_neg (by simpa using h1), if_neg hno, if_pos (by simpa using h5)]; rfl
    clear hno
    go_enter Try.func12, Try.ntmps12
    go_wp2_with fail
    go_ret
    refine ⟨_, rfl, ?_, ((Kept.refl w).al _).al _⟩
    rw [HT.out]
    exact vals_of_own (own_lit' (w := w.alloc (.cells #[.int .i64 s.kind, .string s.name, .string s.other, .int .i64 s.n, .int .i64 s.e.kind, .int .i64 s.e.n, .string s.e.name, .slice a1 n1 q1, .slice a2 n2 q2, .slice a3 n3 q3, .complex .f64 s.re s.im] 29)) 0 9 1 #[.string s.other] rfl (Nat.zero_le _) (w.heap.size + 1) (by simp)) (fun k hk => by simp [Value.ownBlock] at hk; subst hk; exact ⟨by omega, by simp⟩)
  | false =>
    have HT : Hid (s.touches = []) := by unfold St.touches; rw [if_neg (by simpa using h1), if_neg hno, if_neg (by simpa using h5)]; rfl
    clear hno
    go_enter Try.func12, Try.ntmps12
    go_wp2_with fail
    go_ret
    refine ⟨_, rfl, ?_, (Kept.refl w).al _⟩
    rw [HT.out]
    exact ⟨none, 0, rfl, ⟨Nat.le_refl _, by unfold maxLen; omega, fun _ => rfl⟩, fun i hi => by simp [strs] at hi⟩
#print axioms touches_any
end Go.Proofs.Ytoaaikbplnpmmaa
