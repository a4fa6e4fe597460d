/- Jc Jo -/
import Derived.Test.YtnfkjmafhaecgaaTJn
import Derived.Test.YtnfkjmafhaecgaaTJq
import Derived.Deep.LoopGhost
import Derived.Test.YtnfkjmafhaecgaaTRl8
import Derived.Deep.RegionHeld3

namespace Go.Proofs.Ytnfkjmafhaecgaa
open Go.RowKit Jf Go.Maps Go.WideMaps
attribute [local go_sem] run_store_complex
theorem spm_names_of (l : List St) (H : ∀ s ∈ l, (∀ f thr p, ∀ x ∈ spm s.body f thr p, ∃ y ∈ St.flats s.body, x.name = y.name) ∧ (∀ f thr p, ∀ x ∈ spm s.els f thr p, ∃ y ∈ St.flats s.els, x.name = y.name)) : ∀ f thr p, ∀ x ∈ spm l f thr p, ∃ y ∈ St.flats l, x.name = y.name := by
  induction l with
  | nil => intro f thr p x hx; simp [spm] at hx
  | cons s l ih =>
    intro f thr p x hx
    rw [spm, spo_eq] at hx
    rw [St.flats, St.flat_eq]
    rcases List.mem_append.1 hx with hx | hx
    · rcases List.mem_append.1 hx with hx | hx
      · unfold sph at hx
        split at hx
        · rw [List.mem_singleton.1 hx]; exact ⟨s, by simp, rfl⟩
        · cases hx
      · rcases List.mem_append.1 hx with hx | hx
        · obtain ⟨y, h1, h2⟩ := (H s List.mem_cons_self).1 _ _ _ x hx
          exact ⟨y, by simp [h1], h2⟩
        · obtain ⟨y, h1, h2⟩ := (H s List.mem_cons_self).2 _ _ _ x hx
          exact ⟨y, by simp [h1], h2⟩
    · obtain ⟨y, h1, h2⟩ := ih (fun y hy => H y (List.mem_cons_of_mem _ hy)) _ _ _ x hx
      exact ⟨y, by simp [h1], h2⟩
theorem spm_names (l : List St) : ∀ f thr p, ∀ x ∈ spm l f thr p, ∃ y ∈ St.flats l, x.name = y.name := spm_names_of l fun s _ => St.ind (P := fun s => (∀ f thr p, ∀ x ∈ spm s.body f thr p, ∃ y ∈ St.flats s.body, x.name = y.name) ∧ (∀ f thr p, ∀ x ∈ spm s.els f thr p, ∃ y ∈ St.flats s.els, x.name = y.name)) (fun s hb hl => ⟨spm_names_of s.body hb, spm_names_of s.els hl⟩) s
theorem spt_names (t : List (List St)) : ∀ thr p, ∀ x ∈ spt t thr p, ∃ y ∈ flatTs t, x.name = y.name := by
  induction t with
  | nil => intro thr p x hx; simp [spt] at hx
  | cons b t ih =>
    intro thr p x hx
    rw [spt] at hx
    rw [flatTs]
    rcases List.mem_append.1 hx with hx | hx
    · obtain ⟨y, h1, h2⟩ := spm_names b _ _ _ x hx; exact ⟨y, List.mem_append_left _ h1, h2⟩
    · obtain ⟨y, h1, h2⟩ := ih _ _ x hx; exact ⟨y, List.mem_append_right _ h1, h2⟩
theorem spt_thr (t : List (List St)) : (spt t 0 0).Pairwise fun a b => a.thr ≤ b.thr := by
  rw [← sps_all t 0 0 0]
  refine List.Pairwise.filterMap sp (R := fun a b => VisT a b) (fun a b h x hx y hy => ?_) (visT t 0 0 0)
  unfold sp at hx hy
  split at hx
  · split at hy
    · injection hx with hx; injection hy with hy; rw [← hx, ← hy]; exact h.2.2.2
    · cases hy
  · cases hx
set_option maxRecDepth 100000 in
set_option maxHeartbeats 1000000 in
theorem jcheck_any (d : List Dc) (t : List (List St)) (w : World) (dv tv : Value) (hd : DsIn w 0 w.heap.size d dv) (ht : TsIn w 0 w.heap.size t tv) (hn : tsz t ≤ 1073741824) (hnm : ∀ s ∈ flatTs t, s.name.size ≤ maxLen) : Calls Try.prog 10 #[.agg #[dv, tv]] w fun e w' => e = .returned (Jf.told (chk (spt t 0 0))) ∧ Kept w w' := by
  have SP : Hid (∀ W, Kept w W → Calls Try.prog 30 #[.agg #[dv, tv]] W fun e w' => ∃ v, e = .returned v ∧ Hid (OwnJ w' W.heap.size (spt t 0 0) v ∧ Kept W w')) := fun W hW => spots_any d t W dv tv (hd.up (Nat.le_refl _) hW) (ht.up (Nat.le_refl _) hW) hn
  obtain ⟨ad, capd, rfl, -⟩ := hd.open
  obtain ⟨a, cap, rfl, -⟩ := ht.open
  have HLN : Hid ((spt t 0 0).length ≤ 1073741824) := Nat.le_trans (spt_len _ _ _) hn
  have HTH : Hid ((spt t 0 0).Pairwise fun a b => a.thr ≤ b.thr) := spt_thr t
  have HNM : Hid (∀ x ∈ spt t 0 0, x.name.size ≤ maxLen) := fun x hx => by
    obtain ⟨y, h1, h2⟩ := spt_names t 0 0 x hx
    rw [h2]; exact hnm y h1
  obtain ⟨L, hL⟩ : ∃ L, spt t 0 0 = L := ⟨_, rfl⟩
  rw [hL] at SP HLN HTH HNM ⊢
  clear hd ht hn hnm hL
  go_enter Try.func10, Try.ntmps10
  go_wp2_with fail
  refine Calls.mono (SP.out _ ((Kept.refl _).al _)) ?_
  rintro e w1 ⟨v, rfl, H1⟩
  have HJ : Hid (JsD w1 L v) := H1.out.1.js
  have K1 : Hid (Kept w w1) := ((Kept.refl w).al _).then H1.out.2
  obtain ⟨sa, scap, rfl, hsl, hsc⟩ := HJ.out.open
  clear SP H1 hsl hsc
  have F1 : Hid (∀ W, Kept w1 W → Calls Try.prog 31 #[.slice sa L.length scap] W fun e w' => e = .returned (.int .i64 (ftw [] L : Int)) ∧ Kept W w') := fun W hW => firstTwice_any L W _ (HJ.out.kept hW) HTH.out HNM.out HLN.out
  have F2 : Hid (∀ W, Kept w1 W → Calls Try.prog 32 #[.slice sa L.length scap] W fun e w' => e = .returned (.int .i64 (flo 0 L : Int)) ∧ Kept W w') := fun W hW => firstLost_any L W _ (HJ.out.kept hW) HNM.out HLN.out
  have HC : Hid (chk L = L[min (ftw [] L) (flo 0 L)]?.map fun s => (s.re, s.im)) := by show _ = _; unfold chk; rfl
  have hA : ftw [] L ≤ L.length := by have := ftw_le L []; simpa using this
  have hB : flo 0 L ≤ L.length := by have := flo_le L 0; simpa using this
  obtain ⟨x, hx⟩ : ∃ x, ftw [] L = x := ⟨_, rfl⟩
  obtain ⟨y, hy⟩ : ∃ y, flo 0 L = y := ⟨_, rfl⟩
  rw [hx] at F1 HC hA
  rw [hy] at F2 HC hB
  have HAB : Hid (x ≤ L.length ∧ y ≤ L.length) := ⟨hA, hB⟩
  clear hx hy hA hB
  go_wp2_with fail
  refine (F1.out _ (Kept.refl _)).mono ?_
  rintro e w2 ⟨rfl, k2⟩
  have K2 : Hid (Kept w1 w2) := k2
  clear k2
  go_wp2_with fail
  refine (F2.out _ K2.out).mono ?_
  rintro e w3 ⟨rfl, k3⟩
  have K3 : Hid (Kept w1 w3) := K2.out.then k3
  clear k3
  have HIT : Hid (∀ m, m < L.length → ∃ b o, sa = some ⟨b, o, none⟩ ∧ w3.cell? ⟨b, o + m * 6 + 5, none⟩ = some (.complex .f64 (L.getD m sp0).re (L.getD m sp0).im) ∧ b < w3.heap.size) := fun m hm => by
    obtain ⟨b, o, e, _, _, _, _, _, c5, cl⟩ := (HJ.out.kept K3.out).item m hm
    refine ⟨b, o, e, ?_, cl⟩
    rw [c5]
    simp [List.getD_eq_getElem?_getD, hm]
  have HCG : Hid (∀ m, m < L.length → (L[m]?.map fun s => (s.re, s.im)) = some ((L.getD m sp0).re, (L.getD m sp0).im)) := fun m hm => by
    simp [List.getD_eq_getElem?_getD, hm]
  have HKW : Hid (Kept w w3) := K1.out.then K3.out
  have hll : (L.length : Int) ≤ 1073741824 := by have := HLN.out; omega
  by_cases hyx : y < x
  · have hmin : min x y = y := by omega
    rw [hmin] at HC
    by_cases hl : y = L.length
    · have hle : ((y : Int) == (L.length : Int)) = true := by simp [hl]
      have HE : Hid (chk L = none) := by show _ = _; rw [HC.out, hl]; simp
      clear hmin HC HIT HCG hl
      go_wp2_with fail
      go_ret2
      exact ⟨by rw [HE.out]; rfl, HKW.out⟩
    · have hle : ((y : Int) == (L.length : Int)) = false := by simp; omega
      have hlt : y < L.length := by have := HAB.out; omega
      have hki : (y : Int) < (L.length : Int) := by omega
      have HE : Hid (chk L = some ((L.getD y sp0).re, (L.getD y sp0).im)) := HC.out.trans (HCG.out y hlt)
      obtain ⟨b, o, rfl, c5, cl⟩ := HIT.out y hlt
      clear hmin HC HIT HCG hl hlt
      go_wp2_with fail
      go_ret2
      exact ⟨by rw [HE.out]; rfl, HKW.out⟩
  · have hmin : min x y = x := by omega
    rw [hmin] at HC
    by_cases hl : x = L.length
    · have hle : ((x : Int) == (L.length : Int)) = true := by simp [hl]
      have HE : Hid (chk L = none) := by show _ = _; rw [HC.out, hl]; simp
      clear hmin HC HIT HCG hl
      go_wp2_with fail
      go_ret2
      exact ⟨by rw [HE.out]; rfl, HKW.out⟩
    · have hle : ((x : Int) == (L.length : Int)) = false := by simp; omega
      have hlt : x < L.length := by have := HAB.out; omega
      have hki : (x : Int) < (L.length : Int) := by omega
      have HE : Hid (chk L = some ((L.getD x sp0).re, (L.getD x sp0).im)) := HC.out.trans (HCG.out x hlt)
      obtain ⟨b, o, rfl, c5, cl⟩ := HIT.out x hlt
      clear hmin HC HIT HCG hl hlt
      go_wp2_with fail
      go_ret2
      exact ⟨by rw [HE.out]; rfl, HKW.out⟩
end Go.Proofs.Ytnfkjmafhaecgaa

namespace Go.Proofs.Ytnfkjmafhaecgaa
open Go.RowKit
namespace Jf
theorem many_s_of (l : List St) (H : ∀ s ∈ l, (∀ h f thr n p, (many s.body h f thr n p).map (·.s) = St.flats s.body) ∧ (∀ h f thr n p, (many s.els h f thr n p).map (·.s) = St.flats s.els)) : ∀ h f thr n p, (many l h f thr n p).map (·.s) = St.flats l := by
  induction l with
  | nil => intro h f thr n p; simp [many, St.flats]
  | cons s l ih =>
    intro h f thr n p
    rw [many, one_eq, St.flats, St.flat_eq, List.map_append, List.map_cons, List.map_append, ih (fun y hy => H y (List.mem_cons_of_mem _ hy)), (H s List.mem_cons_self).1, (H s List.mem_cons_self).2]
theorem many_s (l : List St) : ∀ h f thr n p, (many l h f thr n p).map (·.s) = St.flats l := many_s_of l fun s _ => St.ind (P := fun s => (∀ h f thr n p, (many s.body h f thr n p).map (·.s) = St.flats s.body) ∧ (∀ h f thr n p, (many s.els h f thr n p).map (·.s) = St.flats s.els)) (fun s hb hl => ⟨many_s_of s.body hb, many_s_of s.els hl⟩) s
theorem all_s (t : List (List St)) : ∀ thr n p, (allA t thr n p).map (·.s) = flatTs t := by
  induction t with
  | nil => intro thr n p; simp [allA, flatTs]
  | cons b t ih => intro thr n p; rw [allA, flatTs, List.map_append, many_s, ih]
theorem many_len (l : List St) (h : List Nat) (f thr n p : Nat) : (many l h f thr n p).length = St.sizes l := by rw [← List.length_map (f := (·.s)), many_s, St.flats_len]
theorem many_num_of (l : List St) (H : ∀ s ∈ l, (∀ h f thr n p, (many s.body h f thr n p).map (·.num) = List.range' p (St.sizes s.body)) ∧ (∀ h f thr n p, (many s.els h f thr n p).map (·.num) = List.range' p (St.sizes s.els))) : ∀ h f thr n p, (many l h f thr n p).map (·.num) = List.range' p (St.sizes l) := by
  induction l with
  | nil => intro h f thr n p; simp [many, St.sizes]
  | cons s l ih =>
    intro h f thr n p
    rw [many, one_eq, List.map_append, List.map_cons, List.map_append, ih (fun y hy => H y (List.mem_cons_of_mem _ hy)), (H s List.mem_cons_self).1, (H s List.mem_cons_self).2, St.sizes, St.size_eq]
    rw [show 1 + (St.sizes s.body + St.sizes s.els) + St.sizes l = (St.sizes s.body + St.sizes s.els + St.sizes l) + 1 by omega, List.range'_succ, List.cons_append]
    congr 1
    rw [List.append_assoc, show p + (1 + (St.sizes s.body + St.sizes s.els)) = p + 1 + St.sizes s.body + St.sizes s.els by omega, List.range'_append_1, List.range'_append_1]
    congr 1; omega
theorem many_num (l : List St) : ∀ h f thr n p, (many l h f thr n p).map (·.num) = List.range' p (St.sizes l) := many_num_of l fun s _ => St.ind (P := fun s => (∀ h f thr n p, (many s.body h f thr n p).map (·.num) = List.range' p (St.sizes s.body)) ∧ (∀ h f thr n p, (many s.els h f thr n p).map (·.num) = List.range' p (St.sizes s.els))) (fun s hb hl => ⟨many_num_of s.body hb, many_num_of s.els hl⟩) s
theorem all_num (t : List (List St)) : ∀ thr n p, (allA t thr n p).map (·.num) = List.range' p (tsz t) := by
  induction t with
  | nil => intro thr n p; simp [allA, tsz]
  | cons b t ih => intro thr n p; rw [allA, tsz, List.map_append, many_num, ih, List.range'_append_1]
theorem all_len (t : List (List St)) (thr n p : Nat) : (allA t thr n p).length = tsz t := by rw [← List.length_map (f := (·.num)), all_num, List.length_range']
theorem num_at (t : List (List St)) (i : Nat) (h : i < (allA t 0 0 0).length) : (allA t 0 0 0)[i].num = i := by
  have h2 : ((allA t 0 0 0).map (·.num))[i]'(by rw [List.length_map]; exact h) = (allA t 0 0 0)[i].num := by simp
  rw [← h2]
  simp only [all_num, List.getElem_range']; omega
def tgA (a : An) : List An → Int
  | [] => -1
  | b :: r => if b.s.kind = 10 ∧ b.s.name = a.s.name ∧ b.f ≤ a.num then (b.num : Int) else tgA a r
theorem tgA_cases (a : An) : ∀ r : List An, (tgA a r = -1 ∧ ∀ b ∈ r, ¬ (b.s.kind = 10 ∧ b.s.name = a.s.name ∧ b.f ≤ a.num)) ∨ ∃ b ∈ r, tgA a r = (b.num : Int) ∧ b.s.kind = 10 ∧ b.s.name = a.s.name ∧ b.f ≤ a.num
  | [] => .inl ⟨rfl, fun _ h => by cases h⟩
  | b :: r => by
    rw [tgA]
    by_cases h : b.s.kind = 10 ∧ b.s.name = a.s.name ∧ b.f ≤ a.num
    · exact .inr ⟨b, List.mem_cons_self, if_pos h, h⟩
    · rw [if_neg h]
      rcases tgA_cases a r with ⟨h1, h2⟩ | ⟨c, h1, h2⟩
      · exact .inl ⟨h1, fun c hc => (List.mem_cons.1 hc).elim (fun e => e ▸ h) (h2 c)⟩
      · exact .inr ⟨c, List.mem_cons_of_mem _ h1, h2⟩
theorem stgt_tgA (a : An) (s : Sp) (h1 : s.name = a.s.name) (h2 : s.num = a.num) : ∀ r : List An, stgt s (r.filterMap sp) = tgA a r
  | [] => rfl
  | b :: r => by
    rw [tgA, List.filterMap_cons]
    by_cases hk : b.s.kind = 9 ∨ b.s.kind = 10
    · have hs : sp b = some ⟨b.s.kind == 10, b.s.name, b.num, b.f, b.thr, b.s.re, b.s.im⟩ := by unfold sp; rw [if_pos hk]
      rw [hs]
      simp only
      rw [stgt, stgt_tgA a s h1 h2 r, h1, h2]
      by_cases h10 : b.s.kind = 10
      · simp [h10]
      · simp [h10]
    · have hs : sp b = none := by unfold sp; rw [if_neg hk]
      rw [hs]
      simp only
      rw [stgt_tgA a s h1 h2 r, if_neg (fun h => hk (.inr h.1))]
theorem starg_at (t : List (List St)) (i : Nat) (h : i < (allA t 0 0 0).length) : starg (spt t 0 0) (i : Int) = if (allA t 0 0 0)[i].s.kind = 9 then tgA (allA t 0 0 0)[i] ((allA t 0 0 0).drop (i + 1)) else -1 := by
  rw [← sps_all t 0 0 0]
  have hn : ∀ (k : Nat) (hk : k < (allA t 0 0 0).length), (allA t 0 0 0)[k].num = k := fun k hk => num_at t k hk
  generalize allA t 0 0 0 = A at *
  -- from number k on
  have key : ∀ m k, A.length - k = m → k ≤ A.length → starg ((A.drop k).filterMap sp) (i : Int) = if k ≤ i then (if A[i].s.kind = 9 then tgA A[i] (A.drop (i + 1)) else -1) else -1 := by
    intro m
    induction m with
    | zero =>
      intro k hm hk
      rw [List.drop_eq_nil_of_le (by omega), if_neg (by omega)]; rfl
    | succ m ih =>
      intro k hm hk
      have hkl : k < A.length := by omega
      have hr := ih (k + 1) (by omega) (by omega)
      rw [List.drop_eq_getElem_cons hkl, List.filterMap_cons]
      by_cases hj : A[k].s.kind = 9 ∨ A[k].s.kind = 10
      · have hs : sp A[k] = some ⟨A[k].s.kind == 10, A[k].s.name, A[k].num, A[k].f, A[k].thr, A[k].s.re, A[k].s.im⟩ := by unfold sp; rw [if_pos hj]
        rw [hs]
        simp only
        rw [starg]
        simp only [hn k hkl]
        by_cases hki : k = i
        · subst hki
          rw [if_pos (Nat.le_refl _)]
          by_cases h9 : A[k].s.kind = 9
          · have h10 : (A[k].s.kind == 10) = false := by rw [h9]; rfl
            rw [if_pos ⟨rfl, h10⟩, if_pos h9]
            exact stgt_tgA A[k] _ rfl (hn k hkl).symm _
          · have h10 : (A[k].s.kind == 10) = true := by simpa using hj.resolve_left h9
            rw [if_neg (fun c => by rw [h10] at c; cases c.2), if_neg h9, hr, if_neg (by omega)]
        · rw [if_neg (fun c => hki (by omega)), hr]
          by_cases hle : k ≤ i
          · rw [if_pos hle, if_pos (by omega)]
          · rw [if_neg hle, if_neg (by omega)]
      · have hs : sp A[k] = none := by unfold sp; rw [if_neg hj]
        rw [hs]
        simp only
        rw [hr]
        by_cases hki : k = i
        · subst hki
          rw [if_neg (by omega), if_pos (Nat.le_refl _), if_neg (fun c => hj (.inl c))]
        · by_cases hle : k ≤ i
          · rw [if_pos hle, if_pos (by omega)]
          · rw [if_neg hle, if_neg (by omega)]
  have := key A.length 0 (by omega) (Nat.zero_le _)
  rw [List.drop_zero, if_pos (Nat.zero_le _)] at this
  exact this
end Jf
end Go.Proofs.Ytnfkjmafhaecgaa
