/- Me -/
import Derived.Test.YtnfkjmafhaecgaaTMd

namespace Go.Proofs.Ytnfkjmafhaecgaa
open Go.RowKit Jf
open List (getElem_toArray getElem_cons_succ getElem_cons_zero setIfInBounds_toArray set_cons_zero set_cons_succ)
attribute [local go_sem] run_store_complex
namespace Jf
abbrev hitM (s x : Mk) : Prop := x.it.s.kind = 10 ∧ x.it.s.name = s.it.s.name ∧ x.thr = s.thr ∧ x.path.getLastD 0 ∈ s.path
def rfind (s : Mk) : List Mk → Nat → Int
  | [], _ => -1
  | x :: r, i => if hitM s x then (i : Int) else rfind s r (i + 1)
theorem rfind_step (s : Mk) (l : List Mk) (k : Nat) (h : k < l.length) : rfind s (l.drop k) k = if hitM s l[k] then (k : Int) else rfind s (l.drop (k + 1)) (k + 1) := by
  rw [List.drop_eq_getElem_cons h]; rfl
def rtgt (A : List Mk) (site : Int) : Int := if h : 0 ≤ site ∧ site.toNat < A.length then if A[site.toNat].it.s.kind = 9 then rfind A[site.toNat] (A.drop (site.toNat + 1)) (site.toNat + 1) else -1 else -1
end Jf
set_option maxRecDepth 100000 in
set_option maxHeartbeats 4000000 in
theorem rtarget_any (A : List Mk) (site : Int) (w : World) (base hi : Nat) (lv : Value) (h : OwnM w base hi A lv) (hh : hi ≤ w.heap.size) (hp : ∀ m ∈ A, m.path ≠ []) (hA : A.length ≤ 1073741824) : Calls Try.prog 34 #[lv, .int .i64 site] w fun e w' => e = .returned (.int .i64 (rtgt A site)) ∧ Kept w w' := by
  have HO : Hid (OwnM w base hi A lv ∧ hi ≤ w.heap.size) := ⟨h, hh⟩
  have HP : Hid (∀ m ∈ A, m.path ≠ []) := hp
  obtain ⟨a, cap, rfl, hs⟩ := own_slice h.row
  have hll : (A.length : Int) ≤ 1073741824 := by omega
  clear h hp hs hh
  go_enter Try.func34, Try.ntmps34
  by_cases h0 : site < 0
  · have HE : Hid (rtgt A site = -1) := by show _ = _; unfold rtgt; rw [dif_neg (by omega)]
    go_wp2_with fail
    go_ret
    exact ⟨by rw [HE.out]; rfl, Kept.refl _⟩
  · obtain ⟨s, rfl⟩ : ∃ s : Nat, site = s := ⟨site.toNat, by omega⟩
    by_cases h1 : s < A.length
    · have h1' : (s : Int) < (A.length : Int) := by omega
      have h1'' : ¬ ((s : Int) ≥ (A.length : Int)) := by omega
      have HR : Hid (rtgt A (s : Int) = if A[s].it.s.kind = 9 then rfind A[s] (A.drop (s + 1)) (s + 1) else -1) := by show _ = _; unfold rtgt; rw [dif_pos ⟨by omega, by simpa using h1⟩]; simp
      obtain ⟨g, o, a1, n1, q1, a2, n2, q2, a3, n3, q3, a4, q4, rfl, c0, c1, c2, c3, c4, c5, c6, c7, c8, c9, c10, c11, c12, cl, cr⟩ := HO.out.1.item s h1
      have HS : Hid (w.cell? ⟨g, o + s * 13, none⟩ = some (.int .i64 A[s].it.s.kind) ∧ w.cell? ⟨g, o + s * 13 + 1, none⟩ = some (.string A[s].it.s.name) ∧ w.cell? ⟨g, o + s * 13 + 2, none⟩ = some (.string A[s].it.s.other) ∧ w.cell? ⟨g, o + s * 13 + 3, none⟩ = some (.int .i64 A[s].it.s.n) ∧ w.cell? ⟨g, o + s * 13 + 4, none⟩ = some (.int .i64 A[s].it.s.e.kind) ∧ w.cell? ⟨g, o + s * 13 + 5, none⟩ = some (.int .i64 A[s].it.s.e.n) ∧ w.cell? ⟨g, o + s * 13 + 6, none⟩ = some (.string A[s].it.s.e.name) ∧ w.cell? ⟨g, o + s * 13 + 7, none⟩ = some (.slice a1 n1 q1) ∧ w.cell? ⟨g, o + s * 13 + 8, none⟩ = some (.slice a2 n2 q2) ∧ w.cell? ⟨g, o + s * 13 + 9, none⟩ = some (.slice a3 n3 q3) ∧ w.cell? ⟨g, o + s * 13 + 10, none⟩ = some (.complex .f64 A[s].it.s.re A[s].it.s.im) ∧ w.cell? ⟨g, o + s * 13 + 11, none⟩ = some (.slice a4 A[s].path.length q4) ∧ w.cell? ⟨g, o + s * 13 + 12, none⟩ = some (.int .i64 (A[s].thr : Int)) ∧ w.ownsRow base 3 1 (.slice a4 A[s].path.length q4) A[s].path.length (ints A[s].path)) := ⟨c0, c1, c2, c3, c4, c5, c6, c7, c8, c9, c10, c11, c12, cr⟩
      clear cr
      by_cases h9 : A[s].it.s.kind = 9
      · have HE : Hid (rtgt A (s : Int) = rfind A[s] (A.drop (s + 1)) (s + 1)) := by show _ = _; rw [HR.out, if_pos h9]
        clear HR
        have HGO : Hid (g < w.heap.size) := cl
        clear c0 c1 c2 c3 c4 c5 c6 c7 c8 c9 c10 c11 c12 cl
        have hs0 := HS.out.1
        go_wp2_with fail
        go_loopw [5] (fun i wr => ∃ k : Nat, i = .int .i64 (k : Int) ∧ k ≤ A.length ∧ Hid (Kept w wr ∧ s < k ∧ rfind A[s] (A.drop (s + 1)) (s + 1) = rfind A[s] (A.drop k) k)) (fun i _ => A.length - (intOf i).toNat)
        case atStart => exact ⟨s + 1, by go_num, by omega, Kept.refl _, by omega, rfl⟩
        case round =>
          obtain ⟨k, rfl, hk, HI⟩ := hrel
          by_cases hlt : k < A.length
          · have hki : (k : Int) < (A.length : Int) := by omega
            obtain ⟨g', o', b1, m1, r1, b2, m2, r2, b3, m3, r3, b4, r4, e, c0, c1, c2, c3, c4, c5, c6, c7, c8, c9, c10, c11, c12, cl, cr⟩ := (HO.out.1.kept HI.out.1 HO.out.2).item k hlt
            cases e
            have HCR : Hid (wr.ownsRow base 3 1 (.slice b4 A[k].path.length r4) A[k].path.length (ints A[k].path)) := cr
            have HST : Hid (rfind A[s] (A.drop (s + 1)) (s + 1) = if hitM A[s] A[k] then (k : Int) else rfind A[s] (A.drop (k + 1)) (k + 1)) := by show _ = _; rw [HI.out.2.2, rfind_step A[s] A k hlt]
            clear cr
            go_upto_region 7 with fail
            obtain ⟨W2, hW2⟩ : ∃ W, wr.alloc (.cells #[.int .i64 A[k].it.s.kind, .string A[k].it.s.name, .string A[k].it.s.other, .int .i64 A[k].it.s.n, .int .i64 A[k].it.s.e.kind, .int .i64 A[k].it.s.e.n, .string A[k].it.s.e.name, .slice b1 m1 r1, .slice b2 m2 r2, .slice b3 m3 r3, .complex .f64 A[k].it.s.re A[k].it.s.im, .slice b4 A[k].path.length r4, .int .i64 (A[k].thr : Int)] 68) = W := ⟨_, rfl⟩
            obtain ⟨D, hD⟩ : ∃ D, wr.heap.size = D := ⟨_, rfl⟩
            have HBD : Hid (BoxS W2 D [.int .i64 A[k].it.s.kind, .string A[k].it.s.name, .string A[k].it.s.other, .int .i64 A[k].it.s.n, .int .i64 A[k].it.s.e.kind, .int .i64 A[k].it.s.e.n, .string A[k].it.s.e.name, .slice b1 m1 r1, .slice b2 m2 r2, .slice b3 m3 r3, .complex .f64 A[k].it.s.re A[k].it.s.im, .slice b4 A[k].path.length r4, .int .i64 (A[k].thr : Int)]) := by rw [← hW2, ← hD]; exact box_newQ _ _ _
            have HK2 : Hid (Kept wr W2) := by rw [← hW2]; exact (Kept.refl _).al _
            rw [hW2, hD]
            clear hW2 hD c0 c1 c2 c3 c4 c5 c6 c7 c8 c9 c10 c11 c12 cl hs0
            have KW : Hid (Kept w W2) := HI.out.1.then HK2.out
            have bd := HBD.out
            have f0 := bd.cell 0 rfl
            have f1 := bd.cell 1 rfl
            have f3 := bd.cell 12 rfl
            have f11 := bd.cell 11 rfl
            have hpn : 0 < A[k].path.length := by
              have := HP.out _ (List.getElem_mem hlt)
              rcases hq : A[k].path with _ | ⟨x, y⟩
              · exact absurd hq this
              · simp
            obtain ⟨gp, c', e, hgp1, hgp2⟩ := HCR.out.form hpn
            cases e
            have pc : W2.cell? ⟨gp, A[k].path.length - 1, none⟩ = some (.int .i64 ((A[k].path.getLastD 0 : Nat) : Int)) := by
              refine HK2.out.cellS ?_
              rw [HCR.out.cellAt (A[k].path.length - 1) (by omega)]
              have : (A[k].path.length - 1) < A[k].path.length := by omega
              simp [ints, List.getLastD_eq_getLast?, List.getLast?_eq_getElem?, this]
            obtain ⟨last, hlast⟩ : ∃ last, A[k].path.getLastD 0 = last := ⟨_, rfl⟩
            rw [hlast] at pc
            have HLAST : Hid (A[k].path.getLastD 0 = last) := hlast
            clear hlast bd
            have g0 := KW.out.cellS HS.out.1
            have g1 := KW.out.cellS HS.out.2.1
            have g12 := KW.out.cellS HS.out.2.2.2.2.2.2.2.2.2.2.2.2.1
            have dl := HBD.out.lt
            have gl : g < W2.heap.size := Nat.lt_of_lt_of_le HGO.out KW.out.size
            by_cases hall : A[k].it.s.kind = 10 ∧ A[k].it.s.name = A[s].it.s.name ∧ A[k].thr = A[s].thr
            · obtain ⟨h10, hnm, hth⟩ := hall
              have hne : (A[k].it.s.name.toList == A[s].it.s.name.toList) = true := by rw [eqB]; exact decide_eq_true hnm
              have hte : ((A[k].thr : Int) == (A[s].thr : Int)) = true := by rw [hth]; simp
              obtain ⟨q, hq⟩ : ∃ q, A[k].path.length = q + 1 := ⟨A[k].path.length - 1, by omega⟩
              have hqb : q ≤ 9223372036854775806 := by
                obtain ⟨_, _, _, hx1, hx2, _⟩ := ints_at HCR.out
                omega
              rw [hq] at f11 pc
              rw [Nat.add_sub_cancel] at pc
              have hwq : IntKind.i64.wrap (q : Int) = (q : Int) := by rw [IntKind.wrap_i64]; omega
              have hq1 : (q : Int) < (q : Int) + 1 := by omega
              have y0 := KW.out.cellS HS.out.1
              have y1 := KW.out.cellS HS.out.2.1
              have y2 := KW.out.cellS HS.out.2.2.1
              have y3 := KW.out.cellS HS.out.2.2.2.1
              have y4 := KW.out.cellS HS.out.2.2.2.2.1
              have y5 := KW.out.cellS HS.out.2.2.2.2.2.1
              have y6 := KW.out.cellS HS.out.2.2.2.2.2.2.1
              have y7 := KW.out.cellS HS.out.2.2.2.2.2.2.2.1
              have y8 := KW.out.cellS HS.out.2.2.2.2.2.2.2.2.1
              have y9 := KW.out.cellS HS.out.2.2.2.2.2.2.2.2.2.1
              have y10 := KW.out.cellS HS.out.2.2.2.2.2.2.2.2.2.2.1
              have y11 := KW.out.cellS HS.out.2.2.2.2.2.2.2.2.2.2.2.1
              have y12 := KW.out.cellS HS.out.2.2.2.2.2.2.2.2.2.2.2.2.1
              have RW : Hid (∀ W, Kept w W → Calls Try.prog 46 #[.int .i64 (last : Int), .agg #[.int .i64 9, .string A[s].it.s.name, .string A[s].it.s.other, .int .i64 A[s].it.s.n, .int .i64 A[s].it.s.e.kind, .int .i64 A[s].it.s.e.n, .string A[s].it.s.e.name, .slice a1 n1 q1, .slice a2 n2 q2, .slice a3 n3 q3, .complex .f64 A[s].it.s.re A[s].it.s.im, .slice a4 A[s].path.length q4, .int .i64 (A[s].thr : Int)]] W fun e w' => e = .returned (.bool (decide (last ∈ A[s].path))) ∧ Kept W w') := fun W hW => rwithin_any last _ _ _ _ _ _ _ _ _ _ _ _ A[s].thr A[s].path _ W base (HS.out.2.2.2.2.2.2.2.2.2.2.2.2.2.kept (Grow.kept (.slice none 0 0) hW).grown (by cases hv : (Value.slice a4 A[s].path.length q4).ownBlock <;> simp [Value.ownBlock]))
              obtain ⟨bb, hbb⟩ : ∃ bb, decide (last ∈ A[s].path) = bb := ⟨_, rfl⟩
              rw [hbb] at RW
              have HBB : Hid (decide (last ∈ A[s].path) = bb) := hbb
              have HITS : Hid (hitM A[s] A[k] ↔ bb = true) := by
                show _ ↔ _
                rw [← hbb, decide_eq_true_iff, ← HLAST.out]
                exact ⟨fun c => c.2.2.2, fun c => ⟨h10, hnm, hth, c⟩⟩
              have HSK : Hid (s < k) := HI.out.2.1
              clear hbb HI HK2 HS HO HCR HP HBD hq
              refine wp_region_held_drew (S := (fun w' => w'.cell? ⟨D, 0, none⟩ = some (.int .i64 A[k].it.s.kind) ∧ w'.cell? ⟨D, 1, none⟩ = some (.string A[k].it.s.name) ∧ w'.cell? ⟨D, 11, none⟩ = some (.slice (some ⟨gp, 0, none⟩) (q + 1) r4) ∧ w'.cell? ⟨D, 12, none⟩ = some (.int .i64 (A[k].thr : Int)) ∧ w'.cell? ⟨gp, q, none⟩ = some (.int .i64 (last : Int)) ∧ w'.cell? ⟨g, o + s * 13, none⟩ = some (.int .i64 A[s].it.s.kind) ∧ w'.cell? ⟨g, o + s * 13 + 1, none⟩ = some (.string A[s].it.s.name) ∧ w'.cell? ⟨g, o + s * 13 + 2, none⟩ = some (.string A[s].it.s.other) ∧ w'.cell? ⟨g, o + s * 13 + 3, none⟩ = some (.int .i64 A[s].it.s.n) ∧ w'.cell? ⟨g, o + s * 13 + 4, none⟩ = some (.int .i64 A[s].it.s.e.kind) ∧ w'.cell? ⟨g, o + s * 13 + 5, none⟩ = some (.int .i64 A[s].it.s.e.n) ∧ w'.cell? ⟨g, o + s * 13 + 6, none⟩ = some (.string A[s].it.s.e.name) ∧ w'.cell? ⟨g, o + s * 13 + 7, none⟩ = some (.slice a1 n1 q1) ∧ w'.cell? ⟨g, o + s * 13 + 8, none⟩ = some (.slice a2 n2 q2) ∧ w'.cell? ⟨g, o + s * 13 + 9, none⟩ = some (.slice a3 n3 q3) ∧ w'.cell? ⟨g, o + s * 13 + 10, none⟩ = some (.complex .f64 A[s].it.s.re A[s].it.s.im) ∧ w'.cell? ⟨g, o + s * 13 + 11, none⟩ = some (.slice a4 A[s].path.length q4) ∧ w'.cell? ⟨g, o + s * 13 + 12, none⟩ = some (.int .i64 (A[s].thr : Int)))) (by kernel_rfl) (by go_keep) (fun hHeld => ?_)
              refine tkY (i := 0) (v := ?_) rfl (by kernel_rfl) (by rfl) ?_ ?_; rotate_left; · (intro w hSw; (try dsimp only at hSw); go_simp; try with_reducible rfl)
              simp only [getElem_toArray, getElem_cons_zero, Act.put, setIfInBounds_toArray, set_cons_zero, set_cons_succ]
              refine tkY (i := 1) (v := ?_) rfl (by kernel_rfl) (by rfl) ?_ ?_; rotate_left; · (intro w hSw; (try dsimp only at hSw); go_simp; try with_reducible rfl)
              simp only [getElem_toArray, getElem_cons_succ, getElem_cons_zero, Act.put, setIfInBounds_toArray, set_cons_zero, set_cons_succ]
              refine tkY (i := 2) (v := ?_) rfl (by kernel_rfl) (by rfl) ?_ ?_; rotate_left; · (intro w hSw; (try dsimp only at hSw); go_simp; try with_reducible rfl)
              simp only [getElem_toArray, getElem_cons_succ, getElem_cons_zero, Act.put, setIfInBounds_toArray, set_cons_zero, set_cons_succ]
              refine tkY (i := 3) (v := ?_) rfl (by kernel_rfl) (by rfl) ?_ ?_; rotate_left; · (intro w hSw; (try dsimp only at hSw); go_simp; try with_reducible rfl)
              simp only [getElem_toArray, getElem_cons_succ, getElem_cons_zero, Act.put, setIfInBounds_toArray, set_cons_zero, set_cons_succ]
              refine tkY (i := 4) (v := ?_) rfl (by kernel_rfl) (by rfl) ?_ ?_; rotate_left; · (intro w hSw; (try dsimp only at hSw); go_simp; try with_reducible rfl)
              simp only [getElem_toArray, getElem_cons_succ, getElem_cons_zero, Act.put, setIfInBounds_toArray, set_cons_zero, set_cons_succ]
              refine tkY (i := 5) (v := ?_) rfl (by kernel_rfl) (by rfl) ?_ ?_; rotate_left; · (intro w hSw; (try dsimp only at hSw); go_simp; try with_reducible rfl)
              simp only [getElem_toArray, getElem_cons_succ, getElem_cons_zero, Act.put, setIfInBounds_toArray, set_cons_zero, set_cons_succ]
              refine tkY (i := 6) (v := ?_) rfl (by kernel_rfl) (by rfl) ?_ ?_; rotate_left; · (intro w hSw; (try dsimp only at hSw); go_simp; try with_reducible rfl)
              simp only [getElem_toArray, getElem_cons_succ, getElem_cons_zero, Act.put, setIfInBounds_toArray, set_cons_zero, set_cons_succ]
              refine tkY (i := 7) (v := ?_) rfl (by kernel_rfl) (by rfl) ?_ ?_; rotate_left; · (intro w hSw; (try dsimp only at hSw); go_simp; try with_reducible rfl)
              simp only [getElem_toArray, getElem_cons_succ, getElem_cons_zero, Act.put, setIfInBounds_toArray, set_cons_zero, set_cons_succ]
              refine tkY (i := 8) (v := ?_) rfl (by kernel_rfl) (by rfl) ?_ ?_; rotate_left; · (intro w hSw; (try dsimp only at hSw); go_simp; try with_reducible rfl)
              simp only [getElem_toArray, getElem_cons_succ, getElem_cons_zero, Act.put, setIfInBounds_toArray, set_cons_zero, set_cons_succ]
              refine tkY (i := 9) (v := ?_) rfl (by kernel_rfl) (by rfl) ?_ ?_; rotate_left; · (intro w hSw; (try dsimp only at hSw); go_simp; try with_reducible rfl)
              simp only [getElem_toArray, getElem_cons_succ, getElem_cons_zero, Act.put, setIfInBounds_toArray, set_cons_zero, set_cons_succ]
              refine tkY (i := 10) (v := ?_) rfl (by kernel_rfl) (by rfl) ?_ ?_; rotate_left; · (intro w hSw; (try dsimp only at hSw); go_simp; try with_reducible rfl)
              simp only [getElem_toArray, getElem_cons_succ, getElem_cons_zero, Act.put, setIfInBounds_toArray, set_cons_zero, set_cons_succ]
              refine tkY (i := 11) (v := ?_) rfl (by kernel_rfl) (by rfl) ?_ ?_; rotate_left; · (intro w hSw; (try dsimp only at hSw); go_simp; try with_reducible rfl)
              simp only [getElem_toArray, getElem_cons_succ, getElem_cons_zero, Act.put, setIfInBounds_toArray, set_cons_zero, set_cons_succ]
              refine tkY (i := 12) (v := ?_) rfl (by kernel_rfl) (by rfl) ?_ ?_; rotate_left; · (intro w hSw; (try dsimp only at hSw); go_simp; try with_reducible rfl)
              simp only [getElem_toArray, getElem_cons_succ, getElem_cons_zero, Act.put, setIfInBounds_toArray, set_cons_zero, set_cons_succ]
              refine tkY (i := 13) (v := ?_) rfl (by kernel_rfl) (by rfl) ?_ ?_; rotate_left; · (intro w hSw; (try dsimp only at hSw); go_simp; try with_reducible rfl)
              simp only [getElem_toArray, getElem_cons_succ, getElem_cons_zero, Act.put, setIfInBounds_toArray, set_cons_zero, set_cons_succ]
              refine tkY (i := 14) (v := ?_) rfl (by kernel_rfl) (by rfl) ?_ ?_; rotate_left; · (intro w hSw; (try dsimp only at hSw); go_simp; try with_reducible rfl)
              simp only [getElem_toArray, getElem_cons_succ, getElem_cons_zero, Act.put, setIfInBounds_toArray, set_cons_zero, set_cons_succ]
              refine tkY (i := 15) (v := ?_) rfl (by kernel_rfl) (by rfl) ?_ ?_; rotate_left; · (intro w hSw; (try dsimp only at hSw); go_simp; try with_reducible rfl)
              simp only [getElem_toArray, getElem_cons_succ, getElem_cons_zero, Act.put, setIfInBounds_toArray, set_cons_zero, set_cons_succ]
              refine tkY (i := 16) (v := ?_) rfl (by kernel_rfl) (by rfl) ?_ ?_; rotate_left; · (intro w hSw; (try dsimp only at hSw); go_simp; try with_reducible rfl)
              simp only [getElem_toArray, getElem_cons_succ, getElem_cons_zero, Act.put, setIfInBounds_toArray, set_cons_zero, set_cons_succ]
              refine tkY (i := 17) (v := ?_) rfl (by kernel_rfl) (by rfl) ?_ ?_; rotate_left; · (intro w hSw; (try dsimp only at hSw); go_simp; try with_reducible rfl)
              simp only [getElem_toArray, getElem_cons_succ, getElem_cons_zero, Act.put, setIfInBounds_toArray, set_cons_zero, set_cons_succ]
              refine tkY (i := 18) (v := ?_) rfl (by kernel_rfl) (by rfl) ?_ ?_; rotate_left; · (intro w hSw; (try dsimp only at hSw); go_simp; try with_reducible rfl)
              simp only [getElem_toArray, getElem_cons_succ, getElem_cons_zero, Act.put, setIfInBounds_toArray, set_cons_zero, set_cons_succ]
              refine tkY (i := 19) (v := ?_) rfl (by kernel_rfl) (by rfl) ?_ ?_; rotate_left; · (intro w hSw; (try dsimp only at hSw); go_simp; try with_reducible rfl)
              simp only [getElem_toArray, getElem_cons_succ, getElem_cons_zero, Act.put, setIfInBounds_toArray, set_cons_zero, set_cons_succ]
              refine tkY (i := 20) (v := ?_) rfl (by kernel_rfl) (by rfl) ?_ ?_; rotate_left; · (intro w hSw; (try dsimp only at hSw); go_simp; try with_reducible rfl)
              simp only [getElem_toArray, getElem_cons_succ, getElem_cons_zero, Act.put, setIfInBounds_toArray, set_cons_zero, set_cons_succ]
              refine tkY (i := 21) (v := ?_) rfl (by kernel_rfl) (by rfl) ?_ ?_; rotate_left; · (intro w hSw; (try dsimp only at hSw); go_simp; try with_reducible rfl)
              simp only [getElem_toArray, getElem_cons_succ, getElem_cons_zero, Act.put, setIfInBounds_toArray, set_cons_zero, set_cons_succ]
              refine tkY (i := 22) (v := ?_) rfl (by kernel_rfl) (by rfl) ?_ ?_; rotate_left; · (intro w hSw; (try dsimp only at hSw); go_simp; try with_reducible rfl)
              simp only [getElem_toArray, getElem_cons_succ, getElem_cons_zero, Act.put, setIfInBounds_toArray, set_cons_zero, set_cons_succ]
              refine tkY (i := 23) (v := ?_) rfl (by kernel_rfl) (by rfl) ?_ ?_; rotate_left; · (intro w hSw; (try dsimp only at hSw); go_simp; try with_reducible rfl)
              simp only [getElem_toArray, getElem_cons_succ, getElem_cons_zero, Act.put, setIfInBounds_toArray, set_cons_zero, set_cons_succ]
              refine tkY (i := 24) (v := ?_) rfl (by kernel_rfl) (by rfl) ?_ ?_; rotate_left; · (intro w hSw; (try dsimp only at hSw); go_simp; try with_reducible rfl)
              simp only [getElem_toArray, getElem_cons_succ, getElem_cons_zero, Act.put, setIfInBounds_toArray, set_cons_zero, set_cons_succ]
              refine tkY (i := 25) (v := ?_) rfl (by kernel_rfl) (by rfl) ?_ ?_; rotate_left; · (intro w hSw; (try dsimp only at hSw); go_simp; try with_reducible rfl)
              simp only [getElem_toArray, getElem_cons_succ, getElem_cons_zero, Act.put, setIfInBounds_toArray, set_cons_zero, set_cons_succ]
              refine tkY (i := 26) (v := ?_) rfl (by kernel_rfl) (by rfl) ?_ ?_; rotate_left; · (intro w hSw; (try dsimp only at hSw); go_simp; try with_reducible rfl)
              simp only [getElem_toArray, getElem_cons_succ, getElem_cons_zero, Act.put, setIfInBounds_toArray, set_cons_zero, set_cons_succ]
              refine tkY (i := 27) (v := ?_) rfl (by kernel_rfl) (by rfl) ?_ ?_; rotate_left; · (intro w hSw; (try dsimp only at hSw); go_simp; try with_reducible rfl)
              simp only [getElem_toArray, getElem_cons_succ, getElem_cons_zero, Act.put, setIfInBounds_toArray, set_cons_zero, set_cons_succ]
              refine tkY (i := 28) (v := ?_) rfl (by kernel_rfl) (by rfl) ?_ ?_; rotate_left; · (intro w hSw; (try dsimp only at hSw); go_simp; try with_reducible rfl)
              simp only [getElem_toArray, getElem_cons_succ, getElem_cons_zero, Act.put, setIfInBounds_toArray, set_cons_zero, set_cons_succ]
              refine tkY (i := 29) (v := ?_) rfl (by kernel_rfl) (by rfl) ?_ ?_; rotate_left; · (intro w hSw; (try dsimp only at hSw); go_simp; try with_reducible rfl)
              simp only [getElem_toArray, getElem_cons_succ, getElem_cons_zero, Act.put, setIfInBounds_toArray, set_cons_zero, set_cons_succ]
              refine tkY (i := 30) (v := ?_) rfl (by kernel_rfl) (by rfl) ?_ ?_; rotate_left; · (intro w hSw; (try dsimp only at hSw); go_simp; try with_reducible rfl)
              simp only [getElem_toArray, getElem_cons_succ, getElem_cons_zero, Act.put, setIfInBounds_toArray, set_cons_zero, set_cons_succ]
              refine tkY (i := 31) (v := ?_) rfl (by kernel_rfl) (by rfl) ?_ ?_; rotate_left; · (intro w hSw; (try dsimp only at hSw); go_simp; try with_reducible rfl)
              simp only [getElem_toArray, getElem_cons_succ, getElem_cons_zero, Act.put, setIfInBounds_toArray, set_cons_zero, set_cons_succ]
              refine tkY (i := 32) (v := ?_) rfl (by kernel_rfl) (by rfl) ?_ ?_; rotate_left; · (intro w hSw; (try dsimp only at hSw); go_simp; try with_reducible rfl)
              simp only [getElem_toArray, getElem_cons_succ, getElem_cons_zero, Act.put, setIfInBounds_toArray, set_cons_zero, set_cons_succ]
              refine tkY (i := 33) (v := ?_) rfl (by kernel_rfl) (by rfl) ?_ ?_; rotate_left; · (intro w hSw; (try dsimp only at hSw); go_simp; try with_reducible rfl)
              simp only [getElem_toArray, getElem_cons_succ, getElem_cons_zero, Act.put, setIfInBounds_toArray, set_cons_zero, set_cons_succ]
              refine tkY (i := 34) (v := ?_) rfl (by kernel_rfl) (by rfl) ?_ ?_; rotate_left; · (intro w hSw; (try dsimp only at hSw); go_simp; try with_reducible rfl)
              simp only [getElem_toArray, getElem_cons_succ, getElem_cons_zero, Act.put, setIfInBounds_toArray, set_cons_zero, set_cons_succ]
              refine tkY (i := 35) (v := ?_) rfl (by kernel_rfl) (by rfl) ?_ ?_; rotate_left; · (intro w hSw; (try dsimp only at hSw); go_simp; try with_reducible rfl)
              simp only [getElem_toArray, getElem_cons_succ, getElem_cons_zero, Act.put, setIfInBounds_toArray, set_cons_zero, set_cons_succ]
              refine tkY (i := 36) (v := ?_) rfl (by kernel_rfl) (by rfl) ?_ ?_; rotate_left; · (intro w hSw; (try dsimp only at hSw); go_simp; try with_reducible rfl)
              simp only [getElem_toArray, getElem_cons_succ, getElem_cons_zero, Act.put, setIfInBounds_toArray, set_cons_zero, set_cons_succ]
              refine tkY (i := 37) (v := ?_) rfl (by kernel_rfl) (by rfl) ?_ ?_; rotate_left; · (intro w hSw; (try dsimp only at hSw); go_simp; try with_reducible rfl)
              simp only [getElem_toArray, getElem_cons_succ, getElem_cons_zero, Act.put, setIfInBounds_toArray, set_cons_zero, set_cons_succ]
              refine tkY (i := 38) (v := ?_) rfl (by kernel_rfl) (by rfl) ?_ ?_; rotate_left; · (intro w hSw; (try dsimp only at hSw); go_simp; try with_reducible rfl)
              simp only [getElem_toArray, getElem_cons_succ, getElem_cons_zero, Act.put, setIfInBounds_toArray, set_cons_zero, set_cons_succ]
              refine wpAnyH_ready (rs := [39]) (by kernel_rfl) (by simp) ?_
              refine AllReadyH.cons rfl (fun K hK => ?_) ?_
              rotate_left
              · exact AllReadyH.nil
              go_simp
              refine (RW.out _ KW.out.dr).mono ?_
              rintro e w5 ⟨rfl, k5⟩
              have HK5 : Hid (Kept w w5) := KW.out.dr.then k5
              have HZ : (fun w' => w'.cell? ⟨D, 0, none⟩ = some (.int .i64 A[k].it.s.kind) ∧ w'.cell? ⟨D, 1, none⟩ = some (.string A[k].it.s.name) ∧ w'.cell? ⟨D, 11, none⟩ = some (.slice (some ⟨gp, 0, none⟩) (q + 1) r4) ∧ w'.cell? ⟨D, 12, none⟩ = some (.int .i64 (A[k].thr : Int)) ∧ w'.cell? ⟨gp, q, none⟩ = some (.int .i64 (last : Int)) ∧ w'.cell? ⟨g, o + s * 13, none⟩ = some (.int .i64 A[s].it.s.kind) ∧ w'.cell? ⟨g, o + s * 13 + 1, none⟩ = some (.string A[s].it.s.name) ∧ w'.cell? ⟨g, o + s * 13 + 2, none⟩ = some (.string A[s].it.s.other) ∧ w'.cell? ⟨g, o + s * 13 + 3, none⟩ = some (.int .i64 A[s].it.s.n) ∧ w'.cell? ⟨g, o + s * 13 + 4, none⟩ = some (.int .i64 A[s].it.s.e.kind) ∧ w'.cell? ⟨g, o + s * 13 + 5, none⟩ = some (.int .i64 A[s].it.s.e.n) ∧ w'.cell? ⟨g, o + s * 13 + 6, none⟩ = some (.string A[s].it.s.e.name) ∧ w'.cell? ⟨g, o + s * 13 + 7, none⟩ = some (.slice a1 n1 q1) ∧ w'.cell? ⟨g, o + s * 13 + 8, none⟩ = some (.slice a2 n2 q2) ∧ w'.cell? ⟨g, o + s * 13 + 9, none⟩ = some (.slice a3 n3 q3) ∧ w'.cell? ⟨g, o + s * 13 + 10, none⟩ = some (.complex .f64 A[s].it.s.re A[s].it.s.im) ∧ w'.cell? ⟨g, o + s * 13 + 11, none⟩ = some (.slice a4 A[s].path.length q4) ∧ w'.cell? ⟨g, o + s * 13 + 12, none⟩ = some (.int .i64 (A[s].thr : Int))) w5 := ⟨k5.cellS hHeld.1, k5.cellS hHeld.2.1, k5.cellS hHeld.2.2.1, k5.cellS hHeld.2.2.2.1, k5.cellS hHeld.2.2.2.2.1, k5.cellS hHeld.2.2.2.2.2.1, k5.cellS hHeld.2.2.2.2.2.2.1, k5.cellS hHeld.2.2.2.2.2.2.2.1, k5.cellS hHeld.2.2.2.2.2.2.2.2.1, k5.cellS hHeld.2.2.2.2.2.2.2.2.2.1, k5.cellS hHeld.2.2.2.2.2.2.2.2.2.2.1, k5.cellS hHeld.2.2.2.2.2.2.2.2.2.2.2.1, k5.cellS hHeld.2.2.2.2.2.2.2.2.2.2.2.2.1, k5.cellS hHeld.2.2.2.2.2.2.2.2.2.2.2.2.2.1, k5.cellS hHeld.2.2.2.2.2.2.2.2.2.2.2.2.2.2.1, k5.cellS hHeld.2.2.2.2.2.2.2.2.2.2.2.2.2.2.2.1, k5.cellS hHeld.2.2.2.2.2.2.2.2.2.2.2.2.2.2.2.2.1, k5.cellS hHeld.2.2.2.2.2.2.2.2.2.2.2.2.2.2.2.2.2⟩
              clear k5 RW
              cases bb with
              | true =>
                have HF : Hid (rtgt A (s : Int) = (k : Int)) := by show _ = _; rw [HE.out, HST.out, if_pos (HITS.out.2 rfl)]
                try go_simp
                refine hK.out _ _ HZ (fun hHeld2 => ?_)
                clear hK K
                try simp only [getElem_toArray, getElem_cons_succ, getElem_cons_zero, Act.put, setIfInBounds_toArray, set_cons_zero, set_cons_succ]
                refine tkY (i := 40) (v := ?_) rfl (by kernel_rfl) (by rfl) ?_ ?_; rotate_left; · (intro w hSw; (try dsimp only at hSw); go_simp; try with_reducible rfl)
                simp only [getElem_toArray, getElem_cons_succ, getElem_cons_zero, Act.put, setIfInBounds_toArray, set_cons_zero, set_cons_succ]
                refine wpAnyH_done (by kernel_rfl) ?_ _
                go_wp2_with fail
                go_ret
                exact ⟨by rw [HF.out]; rfl, HK5.out⟩
              | false =>
                have HN : Hid (rfind A[s] (A.drop (s + 1)) (s + 1) = rfind A[s] (A.drop (k + 1)) (k + 1)) := by show _ = _; rw [HST.out, if_neg (fun c => by cases HITS.out.1 c)]
                try go_simp
                refine hK.out _ _ HZ (fun hHeld2 => ?_)
                clear hK K
                try simp only [getElem_toArray, getElem_cons_succ, getElem_cons_zero, Act.put, setIfInBounds_toArray, set_cons_zero, set_cons_succ]
                refine tkY (i := 40) (v := ?_) rfl (by kernel_rfl) (by rfl) ?_ ?_; rotate_left; · (intro w hSw; (try dsimp only at hSw); go_simp; try with_reducible rfl)
                simp only [getElem_toArray, getElem_cons_succ, getElem_cons_zero, Act.put, setIfInBounds_toArray, set_cons_zero, set_cons_succ]
                refine wpAnyH_done (by kernel_rfl) ?_ _
                go_wp2_with fail
                go_roundw
                case rel => exact ⟨k + 1, by go_num, by omega, HK5.out, by have := HSK.out; omega, HN.out⟩
                case measure => simp [intOf]; omega
            · have HN : Hid (rfind A[s] (A.drop (s + 1)) (s + 1) = rfind A[s] (A.drop (k + 1)) (k + 1)) := by show _ = _; rw [HST.out, if_neg (fun c => hall ⟨c.1, c.2.1, c.2.2.1⟩)]
              have HKW : Hid (Kept w W2 ∧ s < k) := ⟨KW.out, HI.out.2.1⟩
              have hway : (A[k].it.s.kind == 10) = false ∨ (A[k].it.s.kind = 10 ∧ (A[k].it.s.name.toList == A[s].it.s.name.toList) = false) ∨ (A[k].it.s.kind = 10 ∧ (A[k].it.s.name.toList == A[s].it.s.name.toList) = true ∧ ((A[k].thr : Int) == (A[s].thr : Int)) = false) := by
                rw [eqB]
                by_cases h10 : A[k].it.s.kind = 10
                · by_cases hnm : A[k].it.s.name = A[s].it.s.name
                  · exact .inr (.inr ⟨h10, decide_eq_true hnm, by
                      have : A[k].thr ≠ A[s].thr := fun c => hall ⟨h10, hnm, c⟩
                      simp; omega⟩)
                  · exact .inr (.inl ⟨h10, decide_eq_false hnm⟩)
                · exact .inl (by simpa using h10)
              clear HST HI KW HK2 HS HO HCR HP hall
              rcases hway with h10 | ⟨h10, hne⟩ | ⟨h10, hne, hte⟩
              all_goals
                refine wp_region_held_drew (S := (fun w' => w'.cell? ⟨D, 0, none⟩ = some (.int .i64 A[k].it.s.kind) ∧ w'.cell? ⟨D, 1, none⟩ = some (.string A[k].it.s.name) ∧ w'.cell? ⟨D, 12, none⟩ = some (.int .i64 (A[k].thr : Int)) ∧ w'.cell? ⟨g, o + s * 13 + 1, none⟩ = some (.string A[s].it.s.name) ∧ w'.cell? ⟨g, o + s * 13 + 12, none⟩ = some (.int .i64 (A[s].thr : Int)))) (by kernel_rfl) (by go_keep) (fun hHeld => ?_)
                (refine tkY (i := 0) (v := ?_) rfl (by kernel_rfl) (by rfl) ?_ ?_; rotate_left; · (intro w hSw; (try dsimp only at hSw); go_simp; try with_reducible rfl))
                simp only [getElem_toArray, getElem_cons_zero, Act.put, setIfInBounds_toArray, set_cons_zero, set_cons_succ]
                (refine tkY (i := 1) (v := ?_) rfl (by kernel_rfl) (by rfl) ?_ ?_; rotate_left; · (intro w hSw; (try dsimp only at hSw); go_simp; try with_reducible rfl))
                simp only [getElem_toArray, getElem_cons_succ, getElem_cons_zero, Act.put, setIfInBounds_toArray, set_cons_zero, set_cons_succ]
                (refine tkY (i := 2) (v := ?_) rfl (by kernel_rfl) (by rfl) ?_ ?_; rotate_left; · (intro w hSw; (try dsimp only at hSw); go_simp; try with_reducible rfl))
                simp only [getElem_toArray, getElem_cons_succ, getElem_cons_zero, Act.put, setIfInBounds_toArray, set_cons_zero, set_cons_succ]
                (refine tkY (i := 3) (v := ?_) rfl (by kernel_rfl) (by rfl) ?_ ?_; rotate_left; · (intro w hSw; (try dsimp only at hSw); go_simp; try with_reducible rfl))
                simp only [getElem_toArray, getElem_cons_succ, getElem_cons_zero, Act.put, setIfInBounds_toArray, set_cons_zero, set_cons_succ]
                (refine tkY (i := 4) (v := ?_) rfl (by kernel_rfl) (by rfl) ?_ ?_; rotate_left; · (intro w hSw; (try dsimp only at hSw); go_simp; try with_reducible rfl))
                simp only [getElem_toArray, getElem_cons_succ, getElem_cons_zero, Act.put, setIfInBounds_toArray, set_cons_zero, set_cons_succ]
                first | (refine tkY (i := 5) (v := ?_) rfl (by kernel_rfl) (by rfl) ?_ ?_; rotate_left; · (intro w hSw; (try dsimp only at hSw); go_simp; try with_reducible rfl)) | (refine wpAnyH_take (i := 5) (v := undef) rfl (by kernel_rfl) (by kernel_rfl) (by kernel_rfl) (fun _ _ _ h => h) (Or.inr ⟨by rfl, rfl⟩) (by assumption) ?_)
                simp only [getElem_toArray, getElem_cons_succ, getElem_cons_zero, Act.put, setIfInBounds_toArray, set_cons_zero, set_cons_succ]
                first | (refine tkY (i := 6) (v := ?_) rfl (by kernel_rfl) (by rfl) ?_ ?_; rotate_left; · (intro w hSw; (try dsimp only at hSw); go_simp; try with_reducible rfl)) | (refine wpAnyH_take (i := 6) (v := undef) rfl (by kernel_rfl) (by kernel_rfl) (by kernel_rfl) (fun _ _ _ h => h) (Or.inr ⟨by rfl, rfl⟩) (by assumption) ?_)
                simp only [getElem_toArray, getElem_cons_succ, getElem_cons_zero, Act.put, setIfInBounds_toArray, set_cons_zero, set_cons_succ]
                first | (refine tkY (i := 7) (v := ?_) rfl (by kernel_rfl) (by rfl) ?_ ?_; rotate_left; · (intro w hSw; (try dsimp only at hSw); go_simp; try with_reducible rfl)) | (refine wpAnyH_take (i := 7) (v := undef) rfl (by kernel_rfl) (by kernel_rfl) (by kernel_rfl) (fun _ _ _ h => h) (Or.inr ⟨by rfl, rfl⟩) (by assumption) ?_)
                simp only [getElem_toArray, getElem_cons_succ, getElem_cons_zero, Act.put, setIfInBounds_toArray, set_cons_zero, set_cons_succ]
                first | (refine tkY (i := 8) (v := ?_) rfl (by kernel_rfl) (by rfl) ?_ ?_; rotate_left; · (intro w hSw; (try dsimp only at hSw); go_simp; try with_reducible rfl)) | (refine wpAnyH_take (i := 8) (v := undef) rfl (by kernel_rfl) (by kernel_rfl) (by kernel_rfl) (fun _ _ _ h => h) (Or.inr ⟨by rfl, rfl⟩) (by assumption) ?_)
                simp only [getElem_toArray, getElem_cons_succ, getElem_cons_zero, Act.put, setIfInBounds_toArray, set_cons_zero, set_cons_succ]
                first | (refine tkY (i := 9) (v := ?_) rfl (by kernel_rfl) (by rfl) ?_ ?_; rotate_left; · (intro w hSw; (try dsimp only at hSw); go_simp; try with_reducible rfl)) | (refine wpAnyH_take (i := 9) (v := undef) rfl (by kernel_rfl) (by kernel_rfl) (by kernel_rfl) (fun _ _ _ h => h) (Or.inr ⟨by rfl, rfl⟩) (by assumption) ?_)
                simp only [getElem_toArray, getElem_cons_succ, getElem_cons_zero, Act.put, setIfInBounds_toArray, set_cons_zero, set_cons_succ]
                first | (refine tkY (i := 10) (v := ?_) rfl (by kernel_rfl) (by rfl) ?_ ?_; rotate_left; · (intro w hSw; (try dsimp only at hSw); go_simp; try with_reducible rfl)) | (refine wpAnyH_take (i := 10) (v := undef) rfl (by kernel_rfl) (by kernel_rfl) (by kernel_rfl) (fun _ _ _ h => h) (Or.inr ⟨by rfl, rfl⟩) (by assumption) ?_)
                simp only [getElem_toArray, getElem_cons_succ, getElem_cons_zero, Act.put, setIfInBounds_toArray, set_cons_zero, set_cons_succ]
                first | (refine tkY (i := 11) (v := ?_) rfl (by kernel_rfl) (by rfl) ?_ ?_; rotate_left; · (intro w hSw; (try dsimp only at hSw); go_simp; try with_reducible rfl)) | (refine wpAnyH_take (i := 11) (v := undef) rfl (by kernel_rfl) (by kernel_rfl) (by kernel_rfl) (fun _ _ _ h => h) (Or.inr ⟨by rfl, rfl⟩) (by assumption) ?_)
                simp only [getElem_toArray, getElem_cons_succ, getElem_cons_zero, Act.put, setIfInBounds_toArray, set_cons_zero, set_cons_succ]
                first | (refine tkY (i := 12) (v := ?_) rfl (by kernel_rfl) (by rfl) ?_ ?_; rotate_left; · (intro w hSw; (try dsimp only at hSw); go_simp; try with_reducible rfl)) | (refine wpAnyH_take (i := 12) (v := undef) rfl (by kernel_rfl) (by kernel_rfl) (by kernel_rfl) (fun _ _ _ h => h) (Or.inr ⟨by rfl, rfl⟩) (by assumption) ?_)
                simp only [getElem_toArray, getElem_cons_succ, getElem_cons_zero, Act.put, setIfInBounds_toArray, set_cons_zero, set_cons_succ]
                first | (refine tkY (i := 13) (v := ?_) rfl (by kernel_rfl) (by rfl) ?_ ?_; rotate_left; · (intro w hSw; (try dsimp only at hSw); go_simp; try with_reducible rfl)) | (refine wpAnyH_take (i := 13) (v := undef) rfl (by kernel_rfl) (by kernel_rfl) (by kernel_rfl) (fun _ _ _ h => h) (Or.inr ⟨by rfl, rfl⟩) (by assumption) ?_)
                simp only [getElem_toArray, getElem_cons_succ, getElem_cons_zero, Act.put, setIfInBounds_toArray, set_cons_zero, set_cons_succ]
                first | (refine tkY (i := 14) (v := ?_) rfl (by kernel_rfl) (by rfl) ?_ ?_; rotate_left; · (intro w hSw; (try dsimp only at hSw); go_simp; try with_reducible rfl)) | (refine wpAnyH_take (i := 14) (v := undef) rfl (by kernel_rfl) (by kernel_rfl) (by kernel_rfl) (fun _ _ _ h => h) (Or.inr ⟨by rfl, rfl⟩) (by assumption) ?_)
                simp only [getElem_toArray, getElem_cons_succ, getElem_cons_zero, Act.put, setIfInBounds_toArray, set_cons_zero, set_cons_succ]
                (refine tkY (i := 15) (v := ?_) rfl (by kernel_rfl) (by rfl) ?_ ?_; rotate_left; · (intro w hSw; (try dsimp only at hSw); go_simp; try with_reducible rfl))
                simp only [getElem_toArray, getElem_cons_succ, getElem_cons_zero, Act.put, setIfInBounds_toArray, set_cons_zero, set_cons_succ]
                (refine tkY (i := 16) (v := ?_) rfl (by kernel_rfl) (by rfl) ?_ ?_; rotate_left; · (intro w hSw; (try dsimp only at hSw); go_simp; try with_reducible rfl))
                simp only [getElem_toArray, getElem_cons_succ, getElem_cons_zero, Act.put, setIfInBounds_toArray, set_cons_zero, set_cons_succ]
                first | (refine tkY (i := 17) (v := ?_) rfl (by kernel_rfl) (by rfl) ?_ ?_; rotate_left; · (intro w hSw; (try dsimp only at hSw); go_simp; try with_reducible rfl)) | (refine wpAnyH_take (i := 17) (v := undef) rfl (by kernel_rfl) (by kernel_rfl) (by kernel_rfl) (fun _ _ _ h => h) (Or.inr ⟨by rfl, rfl⟩) (by assumption) ?_)
                simp only [getElem_toArray, getElem_cons_succ, getElem_cons_zero, Act.put, setIfInBounds_toArray, set_cons_zero, set_cons_succ]
                first | (refine tkY (i := 18) (v := ?_) rfl (by kernel_rfl) (by rfl) ?_ ?_; rotate_left; · (intro w hSw; (try dsimp only at hSw); go_simp; try with_reducible rfl)) | (refine wpAnyH_take (i := 18) (v := undef) rfl (by kernel_rfl) (by kernel_rfl) (by kernel_rfl) (fun _ _ _ h => h) (Or.inr ⟨by rfl, rfl⟩) (by assumption) ?_)
                simp only [getElem_toArray, getElem_cons_succ, getElem_cons_zero, Act.put, setIfInBounds_toArray, set_cons_zero, set_cons_succ]
                first | (refine tkY (i := 19) (v := ?_) rfl (by kernel_rfl) (by rfl) ?_ ?_; rotate_left; · (intro w hSw; (try dsimp only at hSw); go_simp; try with_reducible rfl)) | (refine wpAnyH_take (i := 19) (v := undef) rfl (by kernel_rfl) (by kernel_rfl) (by kernel_rfl) (fun _ _ _ h => h) (Or.inr ⟨by rfl, rfl⟩) (by assumption) ?_)
                simp only [getElem_toArray, getElem_cons_succ, getElem_cons_zero, Act.put, setIfInBounds_toArray, set_cons_zero, set_cons_succ]
                first | (refine tkY (i := 20) (v := ?_) rfl (by kernel_rfl) (by rfl) ?_ ?_; rotate_left; · (intro w hSw; (try dsimp only at hSw); go_simp; try with_reducible rfl)) | (refine wpAnyH_take (i := 20) (v := undef) rfl (by kernel_rfl) (by kernel_rfl) (by kernel_rfl) (fun _ _ _ h => h) (Or.inr ⟨by rfl, rfl⟩) (by assumption) ?_)
                simp only [getElem_toArray, getElem_cons_succ, getElem_cons_zero, Act.put, setIfInBounds_toArray, set_cons_zero, set_cons_succ]
                first | (refine tkY (i := 21) (v := ?_) rfl (by kernel_rfl) (by rfl) ?_ ?_; rotate_left; · (intro w hSw; (try dsimp only at hSw); go_simp; try with_reducible rfl)) | (refine wpAnyH_take (i := 21) (v := undef) rfl (by kernel_rfl) (by kernel_rfl) (by kernel_rfl) (fun _ _ _ h => h) (Or.inr ⟨by rfl, rfl⟩) (by assumption) ?_)
                simp only [getElem_toArray, getElem_cons_succ, getElem_cons_zero, Act.put, setIfInBounds_toArray, set_cons_zero, set_cons_succ]
                first | (refine tkY (i := 22) (v := ?_) rfl (by kernel_rfl) (by rfl) ?_ ?_; rotate_left; · (intro w hSw; (try dsimp only at hSw); go_simp; try with_reducible rfl)) | (refine wpAnyH_take (i := 22) (v := undef) rfl (by kernel_rfl) (by kernel_rfl) (by kernel_rfl) (fun _ _ _ h => h) (Or.inr ⟨by rfl, rfl⟩) (by assumption) ?_)
                simp only [getElem_toArray, getElem_cons_succ, getElem_cons_zero, Act.put, setIfInBounds_toArray, set_cons_zero, set_cons_succ]
                first | (refine tkY (i := 23) (v := ?_) rfl (by kernel_rfl) (by rfl) ?_ ?_; rotate_left; · (intro w hSw; (try dsimp only at hSw); go_simp; try with_reducible rfl)) | (refine wpAnyH_take (i := 23) (v := undef) rfl (by kernel_rfl) (by kernel_rfl) (by kernel_rfl) (fun _ _ _ h => h) (Or.inr ⟨by rfl, rfl⟩) (by assumption) ?_)
                simp only [getElem_toArray, getElem_cons_succ, getElem_cons_zero, Act.put, setIfInBounds_toArray, set_cons_zero, set_cons_succ]
                first | (refine tkY (i := 24) (v := ?_) rfl (by kernel_rfl) (by rfl) ?_ ?_; rotate_left; · (intro w hSw; (try dsimp only at hSw); go_simp; try with_reducible rfl)) | (refine wpAnyH_take (i := 24) (v := undef) rfl (by kernel_rfl) (by kernel_rfl) (by kernel_rfl) (fun _ _ _ h => h) (Or.inr ⟨by rfl, rfl⟩) (by assumption) ?_)
                simp only [getElem_toArray, getElem_cons_succ, getElem_cons_zero, Act.put, setIfInBounds_toArray, set_cons_zero, set_cons_succ]
                (refine tkY (i := 25) (v := ?_) rfl (by kernel_rfl) (by rfl) ?_ ?_; rotate_left; · (intro w hSw; (try dsimp only at hSw); go_simp; try with_reducible rfl))
                simp only [getElem_toArray, getElem_cons_succ, getElem_cons_zero, Act.put, setIfInBounds_toArray, set_cons_zero, set_cons_succ]
                (refine tkY (i := 26) (v := ?_) rfl (by kernel_rfl) (by rfl) ?_ ?_; rotate_left; · (intro w hSw; (try dsimp only at hSw); go_simp; try with_reducible rfl))
                simp only [getElem_toArray, getElem_cons_succ, getElem_cons_zero, Act.put, setIfInBounds_toArray, set_cons_zero, set_cons_succ]
                (refine wpAnyH_take (i := 27) (v := undef) rfl (by kernel_rfl) (by kernel_rfl) (by kernel_rfl) (fun _ _ _ h => h) (Or.inr ⟨by rfl, rfl⟩) (by assumption) ?_)
                simp only [getElem_toArray, getElem_cons_succ, getElem_cons_zero, Act.put, setIfInBounds_toArray, set_cons_zero, set_cons_succ]
                (refine wpAnyH_take (i := 28) (v := undef) rfl (by kernel_rfl) (by kernel_rfl) (by kernel_rfl) (fun _ _ _ h => h) (Or.inr ⟨by rfl, rfl⟩) (by assumption) ?_)
                simp only [getElem_toArray, getElem_cons_succ, getElem_cons_zero, Act.put, setIfInBounds_toArray, set_cons_zero, set_cons_succ]
                (refine wpAnyH_take (i := 29) (v := undef) rfl (by kernel_rfl) (by kernel_rfl) (by kernel_rfl) (fun _ _ _ h => h) (Or.inr ⟨by rfl, rfl⟩) (by assumption) ?_)
                simp only [getElem_toArray, getElem_cons_succ, getElem_cons_zero, Act.put, setIfInBounds_toArray, set_cons_zero, set_cons_succ]
                (refine wpAnyH_take (i := 30) (v := undef) rfl (by kernel_rfl) (by kernel_rfl) (by kernel_rfl) (fun _ _ _ h => h) (Or.inr ⟨by rfl, rfl⟩) (by assumption) ?_)
                simp only [getElem_toArray, getElem_cons_succ, getElem_cons_zero, Act.put, setIfInBounds_toArray, set_cons_zero, set_cons_succ]
                (refine wpAnyH_take (i := 31) (v := undef) rfl (by kernel_rfl) (by kernel_rfl) (by kernel_rfl) (fun _ _ _ h => h) (Or.inr ⟨by rfl, rfl⟩) (by assumption) ?_)
                simp only [getElem_toArray, getElem_cons_succ, getElem_cons_zero, Act.put, setIfInBounds_toArray, set_cons_zero, set_cons_succ]
                (refine wpAnyH_take (i := 32) (v := undef) rfl (by kernel_rfl) (by kernel_rfl) (by kernel_rfl) (fun _ _ _ h => h) (Or.inr ⟨by rfl, rfl⟩) (by assumption) ?_)
                simp only [getElem_toArray, getElem_cons_succ, getElem_cons_zero, Act.put, setIfInBounds_toArray, set_cons_zero, set_cons_succ]
                (refine wpAnyH_take (i := 33) (v := undef) rfl (by kernel_rfl) (by kernel_rfl) (by kernel_rfl) (fun _ _ _ h => h) (Or.inr ⟨by rfl, rfl⟩) (by assumption) ?_)
                simp only [getElem_toArray, getElem_cons_succ, getElem_cons_zero, Act.put, setIfInBounds_toArray, set_cons_zero, set_cons_succ]
                (refine wpAnyH_take (i := 34) (v := undef) rfl (by kernel_rfl) (by kernel_rfl) (by kernel_rfl) (fun _ _ _ h => h) (Or.inr ⟨by rfl, rfl⟩) (by assumption) ?_)
                simp only [getElem_toArray, getElem_cons_succ, getElem_cons_zero, Act.put, setIfInBounds_toArray, set_cons_zero, set_cons_succ]
                (refine wpAnyH_take (i := 35) (v := undef) rfl (by kernel_rfl) (by kernel_rfl) (by kernel_rfl) (fun _ _ _ h => h) (Or.inr ⟨by rfl, rfl⟩) (by assumption) ?_)
                simp only [getElem_toArray, getElem_cons_succ, getElem_cons_zero, Act.put, setIfInBounds_toArray, set_cons_zero, set_cons_succ]
                (refine wpAnyH_take (i := 36) (v := undef) rfl (by kernel_rfl) (by kernel_rfl) (by kernel_rfl) (fun _ _ _ h => h) (Or.inr ⟨by rfl, rfl⟩) (by assumption) ?_)
                simp only [getElem_toArray, getElem_cons_succ, getElem_cons_zero, Act.put, setIfInBounds_toArray, set_cons_zero, set_cons_succ]
                (refine wpAnyH_take (i := 37) (v := undef) rfl (by kernel_rfl) (by kernel_rfl) (by kernel_rfl) (fun _ _ _ h => h) (Or.inr ⟨by rfl, rfl⟩) (by assumption) ?_)
                simp only [getElem_toArray, getElem_cons_succ, getElem_cons_zero, Act.put, setIfInBounds_toArray, set_cons_zero, set_cons_succ]
                (refine wpAnyH_take (i := 38) (v := undef) rfl (by kernel_rfl) (by kernel_rfl) (by kernel_rfl) (fun _ _ _ h => h) (Or.inr ⟨by rfl, rfl⟩) (by assumption) ?_)
                simp only [getElem_toArray, getElem_cons_succ, getElem_cons_zero, Act.put, setIfInBounds_toArray, set_cons_zero, set_cons_succ]
                (refine wpAnyH_take (i := 39) (v := undef) rfl (by kernel_rfl) (by kernel_rfl) (by kernel_rfl) (fun _ _ _ h => h) (Or.inr ⟨by rfl, rfl⟩) (by assumption) ?_)
                simp only [getElem_toArray, getElem_cons_succ, getElem_cons_zero, Act.put, setIfInBounds_toArray, set_cons_zero, set_cons_succ]
                (refine tkY (i := 40) (v := ?_) rfl (by kernel_rfl) (by rfl) ?_ ?_; rotate_left; · (intro w hSw; (try dsimp only at hSw); go_simp; try with_reducible rfl))
                simp only [getElem_toArray, getElem_cons_succ, getElem_cons_zero, Act.put, setIfInBounds_toArray, set_cons_zero, set_cons_succ]
                refine wpAnyH_done (by kernel_rfl) ?_ _
                go_wp2_with fail
                go_roundw
                case rel => exact ⟨k + 1, by go_num, by omega, HKW.out.1.dr, by have := HKW.out.2; omega, HN.out⟩
                case measure => simp [intOf]; omega
          · have hki : ¬ (k : Int) < (A.length : Int) := by omega
            have HF : Hid (rtgt A (s : Int) = -1) := by show _ = _; rw [HE.out, HI.out.2.2, List.drop_eq_nil_of_le (by omega)]; rfl
            have HK : Hid (Kept w wr) := HI.out.1
            go_wp2_with fail
            go_ret
            exact ⟨by rw [HF.out]; rfl, HK.out⟩
      · have HE : Hid (rtgt A (s : Int) = -1) := by show _ = _; rw [HR.out, if_neg h9]
        have h9' : (A[s].it.s.kind != 9) = true := by simpa using h9
        go_wp2_with fail
        go_ret
        exact ⟨by rw [HE.out]; rfl, Kept.refl _⟩
    · have HE : Hid (rtgt A (s : Int) = -1) := by show _ = _; unfold rtgt; rw [dif_neg (by omega)]
      have h1' : (s : Int) ≥ (A.length : Int) := by omega
      go_wp2_with fail
      go_ret
      exact ⟨by rw [HE.out]; rfl, Kept.refl _⟩
end Go.Proofs.Ytnfkjmafhaecgaa
