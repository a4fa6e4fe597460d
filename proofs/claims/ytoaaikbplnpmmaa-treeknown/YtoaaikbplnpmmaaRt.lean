/- What the reference's Touches answers. -/
import Derived.Test.YtoaaikbplnpmmaaTc
namespace Go.Proofs.Ytoaaikbplnpmmaa
open Go.RowKit
attribute [local go_sem] run_store_complex

set_option maxRecDepth 100000 in
set_option maxHeartbeats 2000000 in
theorem rtouches_any (s : St) (w : World) (ev bv lv : Value) (he : ExsIn w 0 w.heap.size s.e.of ev) (hb : StsIn w 0 w.heap.size s.body bv) (hl : StsIn w 0 w.heap.size s.els lv) (hn : s.e.size ≤ 1073741823) :
    Calls Try.prog 20 #[s.val ev bv lv] w fun r w' => ∃ v', r = .returned v' ∧ ValsD w' (Rng w.heap.size w'.heap.size) (strs s.touches) v' ∧ Kept w w' := by
  obtain ⟨a1, n1, q1, rfl⟩ := he.form
  obtain ⟨a2, n2, q2, rfl⟩ := hb.form
  obtain ⟨a3, n3, q3, rfl⟩ := hl.form
  have PN : Hid (∀ W, Kept w W → Calls Try.prog 22 #[.agg #[.int .i64 s.e.kind, .int .i64 s.e.n, .string s.e.name, .slice a1 n1 q1]] W fun r w' => ∃ a8 n8 q8, r = .returned (.slice a8 n8 q8) ∧ Hid (OwnT w' W.heap.size s.e.names (.slice a8 n8 q8) ∧ Kept W w')) := by
    intro W hW
    refine (rnames_any s.e W _ (he.up (Nat.le_refl _) hW) (by omega)).mono ?_
    rintro r w6 ⟨v6, rfl, ho6, hg6⟩
    obtain ⟨a8, q8, rfl, -⟩ := own_slice ho6.row
    exact ⟨a8, _, q8, rfl, ho6, hg6⟩
  have hnl := Ex.names_len s.e
  have hnl2 : s.e.names.length ≤ 1073741823 := by omega
  clear he hb hl hnl
  unfold St.val
  cases h1 : (s.kind == 1) with
  | true =>
    have HT : Hid (s.touches = s.e.names ++ [s.name]) := by unfold St.touches; rw [if_pos (by simpa using h1)]; rfl
    have g5 : (s.kind == 5) = false := by have := h1; simp at this ⊢; omega
    obtain ⟨ns, hns⟩ : ∃ ns, s.e.names = ns := ⟨_, rfl⟩
    rw [hns] at PN HT hnl2
    clear hns
    go_enter Try.func20, Try.ntmps20
    go_wp2_with fail
    refine (PN.out _ ((Kept.refl w).al _)).mono ?_
    rintro r w6 ⟨a8, n8, q8, rfl, HS⟩
    have b0 : w6.cell? ⟨w.heap.size, 0, none⟩ = some (.int .i64 s.kind) := HS.out.2.cellS (by simp)
    have b1 : w6.cell? ⟨w.heap.size, 1, none⟩ = some (.string s.name) := HS.out.2.cellS (by simp)
    have HO : Hid (OwnT w6 (w.heap.size + 1) ns (.slice a8 n8 q8)) := HS.out.1.low (by simp)
    have KW6 : Hid (Kept w w6 ∧ w.heap.size < w6.heap.size) := ⟨((Kept.refl w).al _).then HS.out.2, block_lt_of_cell b0⟩
    have hz6 := KW6.out.2
    have HOA : Hid (OwnT (w6.alloc (.cells #[.string s.name] 9)) (w.heap.size + 1) ns (.slice a8 n8 q8)) := HO.out.kept ((Kept.refl w6).al _)
    go_wp2_with (at_builtin; refine wpList_append_rows (base := w.heap.size + 1) (n := ns.length) (xs := strs ns) (by rfl) _ _ _ (by rfl) elemStr (by rfl) HOA.out.row (by rfl) (own_lit 0 9 1 _ (by rfl) (Nat.zero_le _)) ?one (by omega) ?len HOA.out.le ?_)
    case one => rfl
    case len => unfold maxLen; omega
    intro ad4 cap4 w4 HG
    have hb4 : Below (w.heap.size + 1) w6 w4 := HG.out.below HOA.out.row (Nat.le_refl _) HOA.out.le ((Below.refl _ _).alloc (by omega) _)
    have b0' : w4.cell? ⟨w.heap.size, 0, none⟩ = some (.int .i64 s.kind) := (hb4.cell (by simp)).trans b0
    have HF : Hid (ValsD w4 (Rng w.heap.size w4.heap.size) (strs s.touches) (.slice ad4 (ns.length + 1) cap4) ∧ Kept w w4) := by
      rw [HT.out]
      exact ⟨((HOA.out.grew (ys := [s.name]) HG.out).low (by omega)).vals, Below.trans KW6.out.1 (hb4.mono (by omega))⟩
    clear hb4 HG b0 b1
    go_wp2_with fail
    go_ret
    exact ⟨_, rfl, HF.out.1, HF.out.2⟩
  | false =>
  cases h4 : (s.kind == 4) with
  | true =>
    have HT : Hid (s.touches = s.e.names) := by unfold St.touches; rw [if_neg (by simpa using h1), if_pos (by have := h4; simp at this; omega)]; rfl
    have g5 : (s.kind == 5) = false := by have := h4; simp at this ⊢; omega
    go_enter Try.func20, Try.ntmps20
    go_wp2_with fail
    refine (PN.out _ ((Kept.refl w).al _)).mono ?_
    rintro r w6 ⟨a8, n8, q8, rfl, HS⟩
    have HF : Hid (ValsD w6 (Rng w.heap.size w6.heap.size) (strs s.touches) (.slice a8 n8 q8) ∧ Kept w w6) := by
      rw [HT.out]
      exact ⟨(HS.out.1.low ((Kept.refl w).al _ : Kept w _).size).vals, ((Kept.refl w).al _).then HS.out.2⟩
    have b0 : w6.cell? ⟨w.heap.size, 0, none⟩ = some (.int .i64 s.kind) := HS.out.2.cellS (by simp)
    go_wp2_with fail
    go_ret
    exact ⟨_, rfl, HF.out.1, HF.out.2⟩
  | false =>
  cases h6 : (s.kind == 6) with
  | true =>
    have HT : Hid (s.touches = s.e.names) := by unfold St.touches; rw [if_neg (by simpa using h1), if_pos (by have := h6; simp at this; omega)]; rfl
    have g5 : (s.kind == 5) = false := by have := h6; simp at this ⊢; omega
    go_enter Try.func20, Try.ntmps20
    go_wp2_with fail
    refine (PN.out _ ((Kept.refl w).al _)).mono ?_
    rintro r w6 ⟨a8, n8, q8, rfl, HS⟩
    have HF : Hid (ValsD w6 (Rng w.heap.size w6.heap.size) (strs s.touches) (.slice a8 n8 q8) ∧ Kept w w6) := by
      rw [HT.out]
      exact ⟨(HS.out.1.low ((Kept.refl w).al _ : Kept w _).size).vals, ((Kept.refl w).al _).then HS.out.2⟩
    have b0 : w6.cell? ⟨w.heap.size, 0, none⟩ = some (.int .i64 s.kind) := HS.out.2.cellS (by simp)
    go_wp2_with fail
    go_ret
    exact ⟨_, rfl, HF.out.1, HF.out.2⟩
  | false =>
  cases h7 : (s.kind == 7) with
  | true =>
    have HT : Hid (s.touches = s.e.names) := by unfold St.touches; rw [if_neg (by simpa using h1), if_pos (by have := h7; simp at this; omega)]; rfl
    have g5 : (s.kind == 5) = false := by have := h7; simp at this ⊢; omega
    go_enter Try.func20, Try.ntmps20
    go_wp2_with fail
    refine (PN.out _ ((Kept.refl w).al _)).mono ?_
    rintro r w6 ⟨a8, n8, q8, rfl, HS⟩
    have HF : Hid (ValsD w6 (Rng w.heap.size w6.heap.size) (strs s.touches) (.slice a8 n8 q8) ∧ Kept w w6) := by
      rw [HT.out]
      exact ⟨(HS.out.1.low ((Kept.refl w).al _ : Kept w _).size).vals, ((Kept.refl w).al _).then HS.out.2⟩
    have b0 : w6.cell? ⟨w.heap.size, 0, none⟩ = some (.int .i64 s.kind) := HS.out.2.cellS (by simp)
    go_wp2_with fail
    go_ret
    exact ⟨_, rfl, HF.out.1, HF.out.2⟩
  | false =>
  have hno : ¬ (s.kind = 4 ∨ s.kind = 6 ∨ s.kind = 7) := by simp at h4 h6 h7; omega
  cases h5 : (s.kind == 5) with
  | true =>
    have HT : Hid (s.touches = [s.other]) := by unfold St.touches; rw [if_neg (by simpa using h1), if_neg hno, if_pos (by simpa using h5)]; rfl
    clear hno
    go_enter Try.func20, Try.ntmps20
    go_wp2_with (at_builtin; refine wpList_append_rows (base := w.heap.size) (n := 0) (xs := []) (by rfl) _ _ _ (by rfl) elemStr (by rfl) ⟨rfl, .inl ⟨rfl, rfl⟩⟩ (by rfl) (own_lit' 0 9 1 _ (by rfl) (Nat.zero_le _) (w.heap.size + 1) (by simp)) ?one (by omega) ?len ?base ?_)
    case one => rfl
    case len => unfold maxLen; omega
    case base => simp; omega
    intro ad4 cap4 w4 HG
    have HF : Hid (ValsD w4 (Rng w.heap.size w4.heap.size) (strs s.touches) (.slice ad4 (0 + 1) cap4) ∧ Kept w w4) := by
      rw [HT.out]
      exact ⟨vals_of_own HG.out.own fun k hk => HG.out.own.lt k hk, HG.out.below ⟨rfl, .inl ⟨rfl, rfl⟩⟩ (Nat.le_refl _) (by simp; omega) (((Kept.refl w).al _).al _)⟩
    clear HG
    go_wp2_with fail
    go_ret
    exact ⟨_, rfl, HF.out.1, HF.out.2⟩
  | false =>
    have HT : Hid (s.touches = []) := by unfold St.touches; rw [if_neg (by simpa using h1), if_neg hno, if_neg (by simpa using h5)]; rfl
    clear hno
    go_enter Try.func20, Try.ntmps20
    go_wp2_with fail
    go_ret
    refine ⟨_, rfl, ?_, (Kept.refl w).al _⟩
    rw [HT.out]
    exact ⟨none, 0, rfl, ⟨Nat.le_refl _, by unfold maxLen; omega, fun _ => rfl⟩, fun i hi => by simp [strs] at hi⟩
#print axioms rtouches_any
end Go.Proofs.Ytoaaikbplnpmmaa
