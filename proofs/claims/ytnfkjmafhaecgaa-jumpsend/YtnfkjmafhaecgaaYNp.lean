/- Jo Se Np -/
import Derived.Test.YtnfkjmafhaecgaaYJc
import Derived.Test.YtnfkjmafhaecgaaYRl8
import Derived.Deep.RegionHeld3
import Derived.Test.YtnfkjmafhaecgaaYKpA
import Derived.Test.YtnfkjmafhaecgaaYBs
import Derived.BigQuiet
import Derived.Deep.QuietTactic
import Derived.Test.YtnfkjmafhaecgaaYSn
import Derived.Test.YtnfkjmafhaecgaaYWD
import Derived.Test.YtnfkjmafhaecgaaYSf

namespace Go.Proofs.Ytnfkjmafhaecgaa
open Go.RowKit
namespace Jf
theorem many_s_of (l : List St) (H : ∀ s ∈ l, (∀ h f thr n p, (many s.body h f thr n p).map (·.s) = St.flats s.body) ∧ (∀ h f thr n p, (many s.els h f thr n p).map (·.s) = St.flats s.els)) : ∀ h f thr n p, (many l h f thr n p).map (·.s) = St.flats l := by
  induction l with
  | nil => intro h f thr n p; simp [many, St.flats]
  | cons s l ih =>
    intro h f thr n p
    rw [many, one_eq, St.flats, St.flat_eq, List.map_append, List.map_cons, List.map_append, ih (fun y hy => H y (List.mem_cons_of_mem _ hy)), (H s List.mem_cons_self).1, (H s List.mem_cons_self).2]
theorem many_s (l : List St) : ∀ h f thr n p, (many l h f thr n p).map (·.s) = St.flats l := many_s_of l fun s _ => St.ind (P := fun s => (∀ h f thr n p, (many s.body h f thr n p).map (·.s) = St.flats s.body) ∧ (∀ h f thr n p, (many s.els h f thr n p).map (·.s) = St.flats s.els)) (fun s hb hl => ⟨many_s_of s.body hb, many_s_of s.els hl⟩) s
theorem all_s (t : List (List St)) : ∀ thr n p, (allA t thr n p).map (·.s) = flatTs t := by
  induction t with
  | nil => intro thr n p; simp [allA, flatTs]
  | cons b t ih => intro thr n p; rw [allA, flatTs, List.map_append, many_s, ih]
theorem many_num_of (l : List St) (H : ∀ s ∈ l, (∀ h f thr n p, (many s.body h f thr n p).map (·.num) = List.range' p (St.sizes s.body)) ∧ (∀ h f thr n p, (many s.els h f thr n p).map (·.num) = List.range' p (St.sizes s.els))) : ∀ h f thr n p, (many l h f thr n p).map (·.num) = List.range' p (St.sizes l) := by
  induction l with
  | nil => intro h f thr n p; simp [many, St.sizes]
  | cons s l ih =>
    intro h f thr n p
    rw [many, one_eq, List.map_append, List.map_cons, List.map_append, ih (fun y hy => H y (List.mem_cons_of_mem _ hy)), (H s List.mem_cons_self).1, (H s List.mem_cons_self).2, St.sizes, St.size_eq]
    rw [show 1 + (St.sizes s.body + St.sizes s.els) + St.sizes l = (St.sizes s.body + St.sizes s.els + St.sizes l) + 1 by omega, List.range'_succ, List.cons_append]
    congr 1
    rw [List.append_assoc, show p + (1 + (St.sizes s.body + St.sizes s.els)) = p + 1 + St.sizes s.body + St.sizes s.els by omega, List.range'_append_1, List.range'_append_1]
    congr 1; omega
theorem many_num (l : List St) : ∀ h f thr n p, (many l h f thr n p).map (·.num) = List.range' p (St.sizes l) := many_num_of l fun s _ => St.ind (P := fun s => (∀ h f thr n p, (many s.body h f thr n p).map (·.num) = List.range' p (St.sizes s.body)) ∧ (∀ h f thr n p, (many s.els h f thr n p).map (·.num) = List.range' p (St.sizes s.els))) (fun s hb hl => ⟨many_num_of s.body hb, many_num_of s.els hl⟩) s
theorem all_num (t : List (List St)) : ∀ thr n p, (allA t thr n p).map (·.num) = List.range' p (tsz t) := by
  induction t with
  | nil => intro thr n p; simp [allA, tsz]
  | cons b t ih => intro thr n p; rw [allA, tsz, List.map_append, many_num, ih, List.range'_append_1]
theorem all_len (t : List (List St)) (thr n p : Nat) : (allA t thr n p).length = tsz t := by rw [← List.length_map (f := (·.num)), all_num, List.length_range']
theorem num_at (t : List (List St)) (i : Nat) (h : i < (allA t 0 0 0).length) : (allA t 0 0 0)[i].num = i := by
  have h2 : ((allA t 0 0 0).map (·.num))[i]'(by rw [List.length_map]; exact h) = (allA t 0 0 0)[i].num := by simp
  rw [← h2]
  simp only [all_num, List.getElem_range']; omega
theorem s_at (t : List (List St)) (i : Nat) (h : i < (allA t 0 0 0).length) (h2 : i < (flatTs t).length) : (allA t 0 0 0)[i].s = (flatTs t)[i] := by
  have h3 : ((allA t 0 0 0).map (·.s))[i]'(by rw [List.length_map]; exact h) = (allA t 0 0 0)[i].s := by simp
  rw [← h3]
  simp only [all_s]
/-- The first Label behind that a is led to. -/
def tgA (a : An) : List An → Int
  | [] => -1
  | b :: r => if b.s.kind = 10 ∧ b.s.name = a.s.name ∧ b.f ≤ a.num then (b.num : Int) else tgA a r
theorem tgA_cases (a : An) : ∀ r : List An, (tgA a r = -1 ∧ ∀ b ∈ r, ¬ (b.s.kind = 10 ∧ b.s.name = a.s.name ∧ b.f ≤ a.num)) ∨ ∃ b ∈ r, tgA a r = (b.num : Int) ∧ b.s.kind = 10 ∧ b.s.name = a.s.name ∧ b.f ≤ a.num
  | [] => .inl ⟨rfl, fun _ h => by cases h⟩
  | b :: r => by
    rw [tgA]
    by_cases h : b.s.kind = 10 ∧ b.s.name = a.s.name ∧ b.f ≤ a.num
    · exact .inr ⟨b, List.mem_cons_self, if_pos h, h⟩
    · rw [if_neg h]
      rcases tgA_cases a r with ⟨h1, h2⟩ | ⟨c, h1, h2⟩
      · exact .inl ⟨h1, fun c hc => (List.mem_cons.1 hc).elim (fun e => e ▸ h) (h2 c)⟩
      · exact .inr ⟨c, List.mem_cons_of_mem _ h1, h2⟩
theorem stgt_tgA (a : An) (s : Sp) (h1 : s.name = a.s.name) (h2 : s.num = a.num) : ∀ r : List An, stgt s (r.filterMap sp) = tgA a r
  | [] => rfl
  | b :: r => by
    rw [tgA, List.filterMap_cons]
    by_cases hk : b.s.kind = 9 ∨ b.s.kind = 10
    · have hs : sp b = some ⟨b.s.kind == 10, b.s.name, b.num, b.f, b.thr, b.s.re, b.s.im⟩ := by unfold sp; rw [if_pos hk]
      rw [hs]
      simp only
      rw [stgt, stgt_tgA a s h1 h2 r, h1, h2]
      by_cases h10 : b.s.kind = 10
      · simp [h10]
      · simp [h10]
    · have hs : sp b = none := by unfold sp; rw [if_neg hk]
      rw [hs]
      simp only
      rw [stgt_tgA a s h1 h2 r, if_neg (fun h => hk (.inr h.1))]
/-- What Target tells of the statement of number i. -/
theorem starg_at (t : List (List St)) (i : Nat) (h : i < (allA t 0 0 0).length) : starg (spt t 0 0) (i : Int) = if (allA t 0 0 0)[i].s.kind = 9 then tgA (allA t 0 0 0)[i] ((allA t 0 0 0).drop (i + 1)) else -1 := by
  rw [← sps_all t 0 0 0]
  have hn : ∀ (k : Nat) (hk : k < (allA t 0 0 0).length), (allA t 0 0 0)[k].num = k := fun k hk => num_at t k hk
  generalize allA t 0 0 0 = A at *
  -- from number k on
  have key : ∀ m k, A.length - k = m → k ≤ A.length → starg ((A.drop k).filterMap sp) (i : Int) = if k ≤ i then (if A[i].s.kind = 9 then tgA A[i] (A.drop (i + 1)) else -1) else -1 := by
    intro m
    induction m with
    | zero =>
      intro k hm hk
      rw [List.drop_eq_nil_of_le (by omega), if_neg (by omega)]; rfl
    | succ m ih =>
      intro k hm hk
      have hkl : k < A.length := by omega
      have hr := ih (k + 1) (by omega) (by omega)
      rw [List.drop_eq_getElem_cons hkl, List.filterMap_cons]
      by_cases hj : A[k].s.kind = 9 ∨ A[k].s.kind = 10
      · have hs : sp A[k] = some ⟨A[k].s.kind == 10, A[k].s.name, A[k].num, A[k].f, A[k].thr, A[k].s.re, A[k].s.im⟩ := by unfold sp; rw [if_pos hj]
        rw [hs]
        simp only
        rw [starg]
        simp only [hn k hkl]
        by_cases hki : k = i
        · subst hki
          rw [if_pos (Nat.le_refl _)]
          by_cases h9 : A[k].s.kind = 9
          · have h10 : (A[k].s.kind == 10) = false := by rw [h9]; rfl
            rw [if_pos ⟨rfl, h10⟩, if_pos h9]
            exact stgt_tgA A[k] _ rfl (hn k hkl).symm _
          · have h10 : (A[k].s.kind == 10) = true := by simpa using hj.resolve_left h9
            rw [if_neg (fun c => by rw [h10] at c; cases c.2), if_neg h9, hr, if_neg (by omega)]
        · rw [if_neg (fun c => hki (by omega)), hr]
          by_cases hle : k ≤ i
          · rw [if_pos hle, if_pos (by omega)]
          · rw [if_neg hle, if_neg (by omega)]
      · have hs : sp A[k] = none := by unfold sp; rw [if_neg hj]
        rw [hs]
        simp only
        rw [hr]
        by_cases hki : k = i
        · subst hki
          rw [if_neg (by omega), if_pos (Nat.le_refl _), if_neg (fun c => hj (.inl c))]
        · by_cases hle : k ≤ i
          · rw [if_pos hle, if_pos (by omega)]
          · rw [if_neg hle, if_neg (by omega)]
  have := key A.length 0 (by omega) (Nat.zero_le _)
  rw [List.drop_zero, if_pos (Nat.zero_le _)] at this
  exact this
theorem flo_all : ∀ (r : List Sp) (k : Nat), flo k r = k + r.length → ∀ pre s post, r = pre ++ s :: post → lost s post = false
  | [], k, h, pre, s, post, e => by simp at e
  | x :: r, k, h, pre, s, post, e => by
    rw [flo] at h
    split at h
    · simp at h
    · rename_i hl
      have h2 : flo (k + 1) r = k + 1 + r.length := by rw [h, List.length_cons]; omega
      cases pre with
      | nil =>
        rw [List.nil_append] at e
        injection e with e1 e2
        subst e1 e2
        simpa using hl
      | cons y pre =>
        rw [List.cons_append] at e
        injection e with e1 e2
        exact flo_all r (k + 1) h2 pre s post e2
theorem chk_flo {l : List Sp} (h : chk l = none) : flo 0 l = l.length ∧ ftw [] l = l.length := by
  unfold chk at h
  rw [Option.map_eq_none_iff, List.getElem?_eq_none_iff] at h
  have h1 := ftw_le l []
  have h2 := flo_le l 0
  simp only [List.length_nil] at h1
  omega
/-- Where all is right each Goto is led somewhere. -/
theorem right_goes (t : List (List St)) (hc : chk (spt t 0 0) = none) (i : Nat) (h : i < (allA t 0 0 0).length) (h9 : (allA t 0 0 0)[i].s.kind = 9) : 0 ≤ starg (spt t 0 0) (i : Int) := by
  rw [starg_at t i h, if_pos h9]
  have hf := (chk_flo hc).1
  have hsp : spt t 0 0 = ((allA t 0 0 0).take i).filterMap sp ++ (⟨(allA t 0 0 0)[i].s.kind == 10, (allA t 0 0 0)[i].s.name, (allA t 0 0 0)[i].num, (allA t 0 0 0)[i].f, (allA t 0 0 0)[i].thr, (allA t 0 0 0)[i].s.re, (allA t 0 0 0)[i].s.im⟩ : Sp) :: ((allA t 0 0 0).drop (i + 1)).filterMap sp := by
    rw [← sps_all t 0 0 0]
    have e : allA t 0 0 0 = (allA t 0 0 0).take i ++ (allA t 0 0 0)[i] :: (allA t 0 0 0).drop (i + 1) := by rw [← List.drop_eq_getElem_cons h, List.take_append_drop]
    have hs : sp (allA t 0 0 0)[i] = some ⟨(allA t 0 0 0)[i].s.kind == 10, (allA t 0 0 0)[i].s.name, (allA t 0 0 0)[i].num, (allA t 0 0 0)[i].f, (allA t 0 0 0)[i].thr, (allA t 0 0 0)[i].s.re, (allA t 0 0 0)[i].s.im⟩ := by unfold sp; rw [if_pos (.inl h9)]
    conv => lhs; rw [e]
    rw [List.filterMap_append, List.filterMap_cons, hs]
  have hl := flo_all _ 0 (by rw [hf]; omega) _ _ _ hsp
  unfold lost at hl
  have h10 : ((allA t 0 0 0)[i].s.kind == 10) = false := by rw [h9]; rfl
  simp only [h10, Bool.not_false, Bool.true_and, decide_eq_false_iff_not] at hl
  rw [stgt_tgA (allA t 0 0 0)[i] _ rfl rfl] at hl
  omega
/-- Where it is led: behind it, to a Label of its name, in its thread; what is around the Label is around it. -/
theorem goes_to (t : List (List St)) (i : Nat) (h : i < (allA t 0 0 0).length) (h0 : 0 ≤ starg (spt t 0 0) (i : Int)) : ∃ j : Nat, ∃ hj : j < (allA t 0 0 0).length, starg (spt t 0 0) (i : Int) = (j : Int) ∧ i < j ∧ (allA t 0 0 0)[i].s.kind = 9 ∧ (allA t 0 0 0)[j].s.kind = 10 ∧ (allA t 0 0 0)[j].s.name = (allA t 0 0 0)[i].s.name ∧ (allA t 0 0 0)[j].thr = (allA t 0 0 0)[i].thr ∧ ∀ k, ∀ hk : k < (allA t 0 0 0).length, k < j → j + 1 ≤ k + (allA t 0 0 0)[k].s.size → k < i := by
  have hst := starg_at t i h
  rw [hst] at h0 ⊢
  by_cases h9 : (allA t 0 0 0)[i].s.kind = 9
  · rw [if_pos h9] at h0 ⊢
    rcases tgA_cases (allA t 0 0 0)[i] ((allA t 0 0 0).drop (i + 1)) with ⟨h1, -⟩ | ⟨b, hb, h1, h2, h3, h4⟩
    · rw [h1] at h0; exact absurd h0 (by decide)
    · obtain ⟨m, hm, rfl⟩ := List.mem_iff_getElem.1 hb
      rw [List.length_drop] at hm
      have hj : i + 1 + m < (allA t 0 0 0).length := by omega
      simp only [List.getElem_drop] at h1 h2 h3 h4
      have hn := num_at t (i + 1 + m) hj
      have hni := num_at t i h
      have pw := List.pairwise_iff_getElem.1 (visT t 0 0 0)
      have v := pw i (i + 1 + m) h hj (by omega)
      refine ⟨i + 1 + m, hj, by rw [h1, hn], by omega, h9, h2, h3, (v.1.2 h4).2, fun k hk hkj hsz => ?_⟩
      have v2 := pw k (i + 1 + m) hk hj hkj
      have hnk := num_at t k hk
      have := v2.2.2.1 (by omega)
      omega
  · rw [if_neg h9] at h0; exact absurd h0 (by decide)
end Jf
end Go.Proofs.Ytnfkjmafhaecgaa

namespace Go.Proofs.Ytnfkjmafhaecgaa
open Go.RowKit
namespace Pp
theorem bind_inv {α β : Type} {p : R α} {f : α → R β} {l m : List Lx.Core} {x : β} (h : bind p f l = (some x, m)) : ∃ y m1, p l = (some y, m1) ∧ f y m1 = (some x, m) := by
  unfold bind at h
  cases hp : p l with
  | mk o m1 =>
    rw [hp] at h
    cases o with
    | none => simp at h
    | some y => exact ⟨y, m1, rfl, h⟩
end Pp
end Go.Proofs.Ytnfkjmafhaecgaa

namespace Go.Proofs.Ytnfkjmafhaecgaa
open Go.RowKit
theorem mem_flats {x : St} : ∀ {l : List St}, x ∈ St.flats l ↔ ∃ s ∈ l, x ∈ St.flat s
  | [] => by simp [St.flats]
  | a :: l => by rw [St.flats, List.mem_append, mem_flats (l := l)]; simp
theorem strip_body (s : St) : s.strip.body = St.strips s.body ∧ s.strip.els = St.strips s.els := by rw [St.strip_eq]; exact ⟨rfl, rfl⟩
theorem sizes_strips_of : ∀ l : List St, (∀ x ∈ l, x.strip.size = x.size) → St.sizes (St.strips l) = St.sizes l
  | [], _ => rfl
  | a :: l, h => by rw [St.strips, St.sizes, St.sizes, h a (List.mem_cons_self ..), sizes_strips_of l fun x hx => h x (List.mem_cons_of_mem _ hx)]
theorem sizes_strips (l : List St) : St.sizes (St.strips l) = St.sizes l := sizes_strips_of l fun y _ => St.ind (P := fun y => y.strip.size = y.size) (fun s hb hl => by
  rw [St.size_eq, St.size_eq s, (strip_body s).1, (strip_body s).2, sizes_strips_of _ hb, sizes_strips_of _ hl]) y
end Go.Proofs.Ytnfkjmafhaecgaa
