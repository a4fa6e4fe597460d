/- Mf Mp -/
import Derived.Test.YtnfkjmafhaecgaaTMe

namespace Go.Proofs.Ytnfkjmafhaecgaa
open Go.RowKit Jf
attribute [local go_sem] run_store_complex
namespace Jf
def rbad (A : List Mk) (i : Nat) (h : i < A.length) : Prop := (A[i].it.s.kind = 9 ∧ rtgt A (i : Int) < 0) ∨ (A[i].it.s.kind = 10 ∧ ∃ k, ∃ hk : k < i, A[k].it.s.kind = 10 ∧ A[k].it.s.name = A[i].it.s.name ∧ A[k].thr = A[i].thr)
structure Rj (A : List Mk) (v : Option (Nat × Nat)) : Prop where
  no : v = none → ∀ i (h : i < A.length), ¬ rbad A i h
  yes : ∀ x, v = some x → ∃ i, ∃ h : i < A.length, rbad A i h ∧ (∀ j (hj : j < i), ¬ rbad A j (by omega)) ∧ x = (A[i].it.s.re, A[i].it.s.im)
end Jf
theorem said_paths {ms : List Mk} {t : List (List St)} (h : ms.map Mk.said = (allA t 0 0 0).map An.said) : ∀ m ∈ ms, m.path ≠ [] := by
  intro m hm e
  have : m.said ∈ (allA t 0 0 0).map An.said := by rw [← h]; exact List.mem_map.2 ⟨m, hm, rfl⟩
  obtain ⟨a, ha, e2⟩ := List.mem_map.1 this
  have h2 := (inT t 0 0 0 a ha).lastm
  have e3 : a.path = m.path := congrArg (fun x => x.2.1) e2
  rw [e3, e] at h2
  cases h2
set_option maxRecDepth 100000 in
set_option maxHeartbeats 1000000 in
theorem rTarget_any (d : List Dc) (t : List (List St)) (site : Int) (w : World) (dv tv : Value) (hd : DsIn w 0 w.heap.size d dv) (ht : TsIn w 0 w.heap.size t tv) (hn : tsz t ≤ 1073741824) (hnb : tnb t ≤ 1073741824) : Calls Try.prog 14 #[.agg #[dv, tv], .int .i64 site] w fun e w' => (∃ A : List Mk, e = .returned (.int .i64 (rtgt A site)) ∧ A.map Mk.said = (allA t 0 0 0).map An.said) ∧ Kept w w' := by
  have RA : Hid (∀ W, Kept w W → Calls Try.prog 33 #[.agg #[dv, tv]] W fun e w' => ∃ v ms, e = .returned v ∧ OwnM w' W.heap.size W.heap.size ms v ∧ ms.map Mk.said = (allA t 0 0 0).map An.said ∧ Kept W w') := fun W hW => rall_any d t W dv tv (hd.up (Nat.le_refl _) hW) (ht.up (Nat.le_refl _) hW) hn hnb
  obtain ⟨ad, capd, rfl, -⟩ := hd.open
  obtain ⟨a, cap, rfl, -⟩ := ht.open
  have HN : Hid (tsz t ≤ 1073741824) := hn
  clear hd ht hn hnb
  go_enter Try.func14, Try.ntmps14
  go_wp2_with fail
  refine (RA.out _ ((Kept.refl _).al _)).mono ?_
  rintro r w1 ⟨v, ms, rfl, ho, hm, hk⟩
  have HP : ∀ m ∈ ms, m.path ≠ [] := said_paths hm
  have HL : ms.length ≤ 1073741824 := by
    have := congrArg List.length hm
    rw [List.length_map, List.length_map, all_len] at this
    have := HN.out; omega
  have RT : Hid (∀ W, Kept w1 W → Calls Try.prog 34 #[v, .int .i64 site] W fun e w' => e = .returned (.int .i64 (rtgt ms site)) ∧ Kept W w') := fun W hW => rtarget_any ms site W _ _ v (ho.kept hW (Nat.le_trans hk.size (Nat.le_refl _))) (Nat.le_trans hk.size hW.size) HP HL
  obtain ⟨sa, scap, rfl, -⟩ := own_slice ho.row
  have HM : Hid (ms.map Mk.said = (allA t 0 0 0).map An.said ∧ Kept w w1) := ⟨hm, ((Kept.refl w).al _).then hk⟩
  clear ho hm hk HP HL RA HN
  go_wp2_with fail
  refine (RT.out _ (Kept.refl _)).mono ?_
  rintro r w2 ⟨rfl, k2⟩
  have K2 : Hid (Kept w w2) := HM.out.2.then k2
  clear k2
  go_wp2_with fail
  go_ret
  exact ⟨⟨ms, rfl, HM.out.1⟩, K2.out⟩
end Go.Proofs.Ytnfkjmafhaecgaa

namespace Go.Proofs.Ytnfkjmafhaecgaa
open Go.RowKit
namespace Jf
theorem said_get {A : List Mk} {B : List An} (hs : A.map Mk.said = B.map An.said) (i : Nat) (h : i < A.length) (h' : i < B.length) : A[i].it.s = B[i].s ∧ A[i].path = B[i].path ∧ A[i].thr = B[i].thr := by
  have e1 : (A.map Mk.said)[i]'(by rw [List.length_map]; exact h) = A[i].said := by simp
  have e2 : (B.map An.said)[i]'(by rw [List.length_map]; exact h') = B[i].said := by simp
  have e : A[i].said = B[i].said := by rw [← e1, ← e2]; simp only [hs]
  unfold Mk.said An.said at e
  injection e with e3 e4
  injection e4 with e4 e5
  exact ⟨e3, e4, e5⟩
theorem said_len2 {A : List Mk} {B : List An} (hs : A.map Mk.said = B.map An.said) : A.length = B.length := by
  have := congrArg List.length hs
  rwa [List.length_map, List.length_map] at this
theorem starg_none : ∀ (l : List Sp) (i : Int), (∀ s ∈ l, (s.num : Int) ≠ i) → starg l i = -1
  | [], _, _ => rfl
  | s :: r, i, h => by rw [starg, if_neg (fun c => h s List.mem_cons_self c.1)]; exact starg_none r i fun s hs => h s (List.mem_cons_of_mem _ hs)
theorem rfind_tgA (t : List (List St)) (A : List Mk) (hs : A.map Mk.said = (allA t 0 0 0).map An.said) (i : Nat) (hi : i < A.length) (hi' : i < (allA t 0 0 0).length) : ∀ m k, A.length - k = m → i < k → k ≤ A.length → rfind A[i] (A.drop k) k = tgA (allA t 0 0 0)[i] ((allA t 0 0 0).drop k) := by
  have hl := said_len2 hs
  intro m
  induction m with
  | zero =>
    intro k hm hk hkl
    rw [List.drop_eq_nil_of_le (by omega), List.drop_eq_nil_of_le (by omega)]; rfl
  | succ m ih =>
    intro k hm hk hkl
    have h1 : k < A.length := by omega
    have h2 : k < (allA t 0 0 0).length := by omega
    rw [rfind_step A[i] A k h1, List.drop_eq_getElem_cons h2, tgA, ih (k + 1) (by omega) (by omega) (by omega)]
    obtain ⟨a1, a2, a3⟩ := said_get hs i hi hi'
    obtain ⟨b1, b2, b3⟩ := said_get hs k h1 h2
    have v := List.pairwise_iff_getElem.1 (visT t 0 0 0) i k hi' h2 hk
    have hv := v.1
    unfold An.last at hv
    have hiff : hitM A[i] A[k] ↔ ((allA t 0 0 0)[k].s.kind = 10 ∧ (allA t 0 0 0)[k].s.name = (allA t 0 0 0)[i].s.name ∧ (allA t 0 0 0)[k].f ≤ (allA t 0 0 0)[i].num) := by
      unfold hitM
      rw [a1, a2, a3, b1, b2, b3]
      exact ⟨fun c => ⟨c.1, c.2.1, hv.1 ⟨c.2.2.2, c.2.2.1⟩⟩, fun c => ⟨c.1, c.2.1, (hv.2 c.2.2).2, (hv.2 c.2.2).1⟩⟩
    rw [num_at t k h2]
    by_cases hc : hitM A[i] A[k]
    · rw [if_pos hc, if_pos (hiff.1 hc)]
    · rw [if_neg hc, if_neg (fun c => hc (hiff.2 c))]
theorem rtgt_starg (t : List (List St)) (A : List Mk) (hs : A.map Mk.said = (allA t 0 0 0).map An.said) (site : Int) : rtgt A site = starg (spt t 0 0) site := by
  have hl := said_len2 hs
  by_cases h : 0 ≤ site ∧ site.toNat < A.length
  · obtain ⟨i, rfl⟩ : ∃ i : Nat, site = i := ⟨site.toNat, by omega⟩
    have hi : i < A.length := by omega
    have hi' : i < (allA t 0 0 0).length := by omega
    rw [starg_at t i hi']
    unfold rtgt
    rw [dif_pos h]
    simp only [Int.toNat_natCast]
    rw [(said_get hs i hi hi').1, rfind_tgA t A hs i hi hi' _ (i + 1) rfl (by omega) (by omega)]
  · unfold rtgt
    rw [dif_neg h, starg_none]
    intro s hs'
    rw [← sps_all t 0 0 0] at hs'
    obtain ⟨a, ha, e⟩ := List.mem_filterMap.1 hs'
    unfold sp at e
    split at e
    · injection e with e
      obtain ⟨j, hj, rfl⟩ := List.mem_iff_getElem.1 ha
      have := num_at t j hj
      rw [← e]
      show ((allA t 0 0 0)[j].num : Int) ≠ site
      rw [this]; omega
    · cases e
def cj : List Sp → List Sp → Option (Nat × Nat)
  | _, [] => none
  | pre, s :: r => if twice pre s = true ∨ lost s r = true then some (s.re, s.im) else cj (pre ++ [s]) r
theorem ftw_ge : ∀ (r pre : List Sp), pre.length ≤ ftw pre r
  | [], pre => by rw [ftw]; exact Nat.le_refl _
  | s :: r, pre => by
    rw [ftw]; split
    · exact Nat.le_refl _
    · have := ftw_ge r (pre ++ [s]); rw [List.length_append] at this; simp at this; omega
theorem flo_ge : ∀ (r : List Sp) (k : Nat), k ≤ flo k r
  | [], k => by rw [flo]; exact Nat.le_refl _
  | s :: r, k => by
    rw [flo]; split
    · exact Nat.le_refl _
    · have := flo_ge r (k + 1); omega
theorem chk_cj : ∀ (r pre : List Sp), ((pre ++ r)[min (ftw pre r) (flo pre.length r)]?).map (fun s => (s.re, s.im)) = cj pre r
  | [], pre => by simp [ftw, flo, cj]
  | s :: r, pre => by
    rw [cj, ftw, flo]
    by_cases h1 : twice pre s = true
    · rw [if_pos h1, if_pos (show twice pre s = true ∨ lost s r = true from .inl h1), Nat.min_eq_left (by split <;> (have := flo_ge r (pre.length + 1); omega))]
      simp
    · rw [if_neg h1]
      by_cases h2 : lost s r = true
      · rw [if_pos h2, if_pos (show twice pre s = true ∨ lost s r = true from .inr h2), Nat.min_eq_right (by have := ftw_ge r (pre ++ [s]); rw [List.length_append] at this; omega)]
        simp
      · rw [if_neg h2, if_neg (show ¬ (twice pre s = true ∨ lost s r = true) from fun c => c.elim h1 h2)]
        have := chk_cj r (pre ++ [s])
        rw [← this]
        simp
def badA (pre : List An) (a : An) (r : List An) : Prop := (a.s.kind = 9 ∧ tgA a r < 0) ∨ (a.s.kind = 10 ∧ ∃ x ∈ pre, x.s.kind = 10 ∧ x.s.name = a.s.name ∧ x.thr = a.thr)
theorem cj_some (pre : List An) (a : An) (r : List An) (h : badA pre a r) : cj (pre.filterMap sp) ((a :: r).filterMap sp) = some (a.s.re, a.s.im) := by
  have hk : a.s.kind = 9 ∨ a.s.kind = 10 := h.elim (fun c => .inl c.1) fun c => .inr c.1
  have hs : sp a = some ⟨a.s.kind == 10, a.s.name, a.num, a.f, a.thr, a.s.re, a.s.im⟩ := by unfold sp; rw [if_pos hk]
  rw [List.filterMap_cons, hs]
  simp only
  rw [cj, if_pos]
  rcases h with ⟨h9, h2⟩ | ⟨h10, x, hx, x1, x2, x3⟩
  · right
    unfold lost
    rw [stgt_tgA a _ rfl rfl, h9]
    simp [h2]
  · left
    unfold twice
    rw [h10]
    simp only [beq_self_eq_true, Bool.true_and, List.any_eq_true]
    refine ⟨⟨x.s.kind == 10, x.s.name, x.num, x.f, x.thr, x.s.re, x.s.im⟩, List.mem_filterMap.2 ⟨x, hx, by unfold sp; rw [if_pos (.inr x1)]⟩, by simp [x1, x2, x3]⟩
theorem cj_next (pre : List An) (a : An) (r : List An) (h : ¬ badA pre a r) : cj (pre.filterMap sp) ((a :: r).filterMap sp) = cj ((pre ++ [a]).filterMap sp) (r.filterMap sp) := by
  by_cases hk : a.s.kind = 9 ∨ a.s.kind = 10
  · have hs : sp a = some ⟨a.s.kind == 10, a.s.name, a.num, a.f, a.thr, a.s.re, a.s.im⟩ := by unfold sp; rw [if_pos hk]
    rw [List.filterMap_append, List.filterMap_cons, hs]
    simp only
    rw [cj, if_neg]
    · simp [hs]
    · rintro (c | c)
      · unfold twice at c
        simp only [Bool.and_eq_true, beq_iff_eq, List.any_eq_true, decide_eq_true_eq] at c
        obtain ⟨h10, y, hy, y1, y2, y3⟩ := c
        obtain ⟨x, hx, e⟩ := List.mem_filterMap.1 hy
        unfold sp at e
        split at e
        · injection e with e
          subst e
          simp only [beq_iff_eq] at y1
          exact h (.inr ⟨h10, x, hx, y1, y2, y3⟩)
        · cases e
      · unfold lost at c
        rw [stgt_tgA a _ rfl rfl] at c
        simp only [Bool.and_eq_true, Bool.not_eq_true', beq_eq_false_iff_ne, decide_eq_true_eq] at c
        exact h (.inl ⟨hk.resolve_right c.1, c.2⟩)
  · have hs : sp a = none := by unfold sp; rw [if_neg hk]
    rw [List.filterMap_append, List.filterMap_cons, hs]
    simp [hs]
theorem rbad_badA (t : List (List St)) (A : List Mk) (hs : A.map Mk.said = (allA t 0 0 0).map An.said) (i : Nat) (h : i < A.length) (h' : i < (allA t 0 0 0).length) : rbad A i h ↔ badA ((allA t 0 0 0).take i) (allA t 0 0 0)[i] ((allA t 0 0 0).drop (i + 1)) := by
  have hl := said_len2 hs
  obtain ⟨a1, a2, a3⟩ := said_get hs i h h'
  unfold rbad badA
  rw [rtgt_starg t A hs, starg_at t i h', a1, a3]
  constructor
  · rintro (⟨h9, h2⟩ | ⟨h10, k, hk, k1, k2, k3⟩)
    · rw [if_pos h9] at h2; exact .inl ⟨h9, h2⟩
    · obtain ⟨b1, b2, b3⟩ := said_get hs k (by omega) (by omega)
      rw [b1] at k1 k2
      rw [b3] at k3
      exact .inr ⟨h10, (allA t 0 0 0)[k], List.mem_iff_getElem.2 ⟨k, by rw [List.length_take]; omega, by simp⟩, k1, k2, k3⟩
  · rintro (⟨h9, h2⟩ | ⟨h10, x, hx, x1, x2, x3⟩)
    · exact .inl ⟨h9, by rw [if_pos h9]; exact h2⟩
    · obtain ⟨k, hk, rfl⟩ := List.mem_iff_getElem.1 hx
      rw [List.length_take] at hk
      simp only [List.getElem_take] at x1 x2 x3
      obtain ⟨b1, b2, b3⟩ := said_get hs k (by omega) (by omega)
      exact .inr ⟨h10, k, by omega, by rw [b1]; exact x1, by rw [b1]; exact x2, by rw [b3]; exact x3⟩
theorem rj_chk (t : List (List St)) (A : List Mk) (hs : A.map Mk.said = (allA t 0 0 0).map An.said) (v : Option (Nat × Nat)) (hv : Rj A v) : v = chk (spt t 0 0) := by
  have hl := said_len2 hs
  have hc : chk (spt t 0 0) = cj [] ((allA t 0 0 0).filterMap sp) := by
    rw [← chk_cj]; unfold chk; rw [sps_all]; simp
  rw [hc]
  -- up to where nothing is wrong
  have key : ∀ n, n ≤ A.length → (∀ j (hj : j < A.length), j < n → ¬ rbad A j hj) → cj [] ((allA t 0 0 0).filterMap sp) = cj (((allA t 0 0 0).take n).filterMap sp) (((allA t 0 0 0).drop n).filterMap sp) := by
    intro n
    induction n with
    | zero => intro _ _; simp
    | succ n ih =>
      intro hn hb
      have h' : n < (allA t 0 0 0).length := by omega
      rw [ih (by omega) fun j hj hjn => hb j hj (by omega), List.drop_eq_getElem_cons h', cj_next _ _ _ (fun c => hb n (by omega) (by omega) ((rbad_badA t A hs n (by omega) h').2 c)), ← List.take_succ_eq_append_getElem h']
  cases v with
  | none =>
    rw [key A.length (Nat.le_refl _) fun j hj _ => hv.no rfl j hj, List.drop_eq_nil_of_le (by omega)]
    rfl
  | some x =>
    obtain ⟨i, h, h1, h2, rfl⟩ := hv.yes x rfl
    have h' : i < (allA t 0 0 0).length := by omega
    rw [key i (by omega) fun j hj hji => h2 j hji, List.drop_eq_getElem_cons h', cj_some _ _ _ ((rbad_badA t A hs i h h').1 h1), (said_get hs i h h').1]
end Jf
end Go.Proofs.Ytnfkjmafhaecgaa
