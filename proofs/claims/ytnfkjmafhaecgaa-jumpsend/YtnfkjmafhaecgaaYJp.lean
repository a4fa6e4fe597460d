/- Jp -/
import Derived.Test.YtnfkjmafhaecgaaYKpA
import Derived.Test.YtnfkjmafhaecgaaYRl8

namespace Go.Proofs.Ytnfkjmafhaecgaa
open Go.RowKit
mutual
/-- How many blocks stand within. -/
def St.nb : St → Nat
  | .mk _ _ _ _ _ b l _ _ => 2 + (St.nbs b + St.nbs l)
def St.nbs : List St → Nat
  | [] => 0
  | a :: l => St.nb a + St.nbs l
end
theorem St.nb_eq (s : St) : St.nb s = 2 + (St.nbs s.body + St.nbs s.els) := by cases s; rw [St.nb]; rfl
namespace Jf
/-- A statement where it stands: the blocks around it, its thread, its number, the number of its block's first statement. -/
structure An where
  s : St
  path : List Nat
  thr : Nat
  num : Nat
  f : Nat
def An.last (a : An) : Nat := a.path.getLastD 0
mutual
/-- A statement and those within it: here: the blocks around it; f: its block's first number; n: the last block's number; p: its own number. -/
def one : St → List Nat → Nat → Nat → Nat → Nat → List An
  | .mk k s o m e b l x y, here, f, thr, n, p => ⟨.mk k s o m e b l x y, here, thr, p, f⟩ :: (many b (here ++ [n + 1]) (p + 1) thr (n + 1) (p + 1) ++ many l (here ++ [n + 2 + St.nbs b]) (p + 1 + St.sizes b) thr (n + 2 + St.nbs b) (p + 1 + St.sizes b))
def many : List St → List Nat → Nat → Nat → Nat → Nat → List An
  | [], _, _, _, _, _ => []
  | a :: l, here, f, thr, n, p => one a here f thr n p ++ many l here f thr (n + St.nb a) (p + St.size a)
end
theorem one_eq (s : St) (here : List Nat) (f thr n p : Nat) : one s here f thr n p = ⟨s, here, thr, p, f⟩ :: (many s.body (here ++ [n + 1]) (p + 1) thr (n + 1) (p + 1) ++ many s.els (here ++ [n + 2 + St.nbs s.body]) (p + 1 + St.sizes s.body) thr (n + 2 + St.nbs s.body) (p + 1 + St.sizes s.body)) := by cases s; rw [one]; rfl
/-- A program's. -/
def allA : List (List St) → Nat → Nat → Nat → List An
  | [], _, _, _ => []
  | b :: t, thr, n, p => many b [n + 1] p thr (n + 1) p ++ allA t (thr + 1) (n + 1 + St.nbs b) (p + St.sizes b)
def tsz : List (List St) → Nat
  | [] => 0
  | b :: t => St.sizes b + tsz t
def tnb : List (List St) → Nat
  | [] => 0
  | b :: t => 1 + St.nbs b + tnb t
theorem tsz_append (t u : List (List St)) : tsz (t ++ u) = tsz t + tsz u := by
  induction t with
  | nil => simp [tsz]
  | cons b t ih => simp only [List.cons_append, tsz, ih]; omega
theorem tsz_flat (t : List (List St)) : (flatTs t).length = tsz t := by
  induction t with
  | nil => rfl
  | cons b t ih => rw [flatTs, List.length_append, St.flats_len, ih, tsz]
/-- What holds of what stands in a block's rest. -/
structure In (x : An) (l : List St) (here : List Nat) (f thr n p : Nat) : Prop where
  thr : x.thr = thr
  lo : p ≤ x.num
  hi : x.num + x.s.size ≤ p + St.sizes l
  ff : x.f ≤ x.num
  sub : ∀ c ∈ here, c ∈ x.path
  fresh : ∀ c ∈ x.path, c ∈ here ∨ (n < c ∧ c ≤ n + St.nbs l)
  own : (x.path = here ∧ x.f = f) ∨ (n < x.last ∧ x.last ≤ n + St.nbs l ∧ p < x.f)
theorem last_snoc (l : List Nat) (c : Nat) : (l ++ [c]).getLastD 0 = c := by simp [List.getLastD_eq_getLast?]
def PIn (l : List St) : Prop := ∀ (here : List Nat) (f thr n p : Nat), f ≤ p → ∀ x ∈ many l here f thr n p, In x l here f thr n p
theorem in_of (l : List St) (H : ∀ s ∈ l, PIn s.body ∧ PIn s.els) : PIn l := by
  induction l with
  | nil => intro here f thr n p _ x hx; simp [many] at hx
  | cons s l ih =>
    intro here f thr n p hf x hx
    rw [many, one_eq] at hx
    obtain ⟨hb, he⟩ := H s List.mem_cons_self
    have hz := St.size_eq s
    have hn := St.nb_eq s
    have hsz : St.sizes (s :: l) = s.size + St.sizes l := by rw [St.sizes]
    have hnb : St.nbs (s :: l) = St.nb s + St.nbs l := by rw [St.nbs]
    rcases List.mem_append.1 hx with hx | hx
    · rcases List.mem_cons.1 hx with rfl | hx
      · exact ⟨rfl, Nat.le_refl _, by show p + s.size ≤ _; omega, hf, fun c h => h, fun c h => .inl h, .inl ⟨rfl, rfl⟩⟩
      · rcases List.mem_append.1 hx with hx | hx
        · have h := hb _ _ thr _ _ (Nat.le_refl _) x hx
          refine ⟨h.thr, by have := h.lo; omega, by have := h.hi; omega, h.ff, fun c hc => h.sub c (List.mem_append_left _ hc), fun c hc => ?_, ?_⟩
          · rcases h.fresh c hc with h1 | h1
            · rcases List.mem_append.1 h1 with h1 | h1
              · exact .inl h1
              · rw [List.mem_singleton.1 h1]; right; omega
            · right; omega
          · right
            rcases h.own with ⟨h1, h2⟩ | ⟨h1, h2, h3⟩
            · unfold An.last; rw [h1, last_snoc, h2]; omega
            · omega
        · have h := he _ _ thr _ _ (Nat.le_refl _) x hx
          refine ⟨h.thr, by have := h.lo; omega, by have := h.hi; omega, h.ff, fun c hc => h.sub c (List.mem_append_left _ hc), fun c hc => ?_, ?_⟩
          · rcases h.fresh c hc with h1 | h1
            · rcases List.mem_append.1 h1 with h1 | h1
              · exact .inl h1
              · rw [List.mem_singleton.1 h1]; right; omega
            · right; omega
          · right
            rcases h.own with ⟨h1, h2⟩ | ⟨h1, h2, h3⟩
            · unfold An.last; rw [h1, last_snoc, h2]; omega
            · omega
    · have h := ih (fun y hy => H y (List.mem_cons_of_mem _ hy)) here f thr _ _ (by omega) x hx
      refine ⟨h.thr, by have := h.lo; omega, by have := h.hi; omega, h.ff, h.sub, fun c hc => ?_, ?_⟩
      · rcases h.fresh c hc with h1 | h1
        · exact .inl h1
        · right; omega
      · rcases h.own with h1 | ⟨h1, h2, h3⟩
        · exact .inl h1
        · right; omega
theorem in_any (l : List St) : PIn l := in_of l fun s _ => St.ind (P := fun s => PIn s.body ∧ PIn s.els) (fun s hb hl => ⟨in_of s.body hb, in_of s.els hl⟩) s
/-- What stands behind, seen: that its block is around is that it begins no later; what is within begins behind. -/
def Vis (a b : An) : Prop := (b.last ∈ a.path ↔ b.f ≤ a.num) ∧ a.thr = b.thr ∧ a.num < b.num ∧ (b.num < a.num + a.s.size → a.num < b.f)
def PVis (l : List St) : Prop := ∀ (here : List Nat) (f thr n p : Nat), f ≤ p → here ≠ [] → (∀ c ∈ here, c ≤ n) → (many l here f thr n p).Pairwise Vis
theorem fresh_not {here : List Nat} {n c : Nat} (h : ∀ c ∈ here, c ≤ n) (hc : n < c) : c ∉ here := fun hm => by have := h c hm; omega
theorem le_snoc {here : List Nat} {n m : Nat} (h : ∀ c ∈ here, c ≤ n) (hm : n ≤ m) : ∀ c ∈ here ++ [m], c ≤ m := fun c hc => by
  rcases List.mem_append.1 hc with hc | hc
  · have := h c hc; omega
  · rw [List.mem_singleton.1 hc]; exact Nat.le_refl _
theorem last_mem {here : List Nat} (h : here ≠ []) : here.getLastD 0 ∈ here := by
  rw [List.getLastD_eq_getLast?, List.getLast?_eq_some_getLast h]; exact List.getLast_mem h
theorem vis_of (l : List St) (H : ∀ s ∈ l, PVis s.body ∧ PVis s.els) : PVis l := by
  induction l with
  | nil => intro here f thr n p _ _ _; simp [many]
  | cons s l ih =>
    intro here f thr n p hf hne hle
    rw [many, one_eq]
    obtain ⟨hb, he⟩ := H s List.mem_cons_self
    have hz := St.size_eq s
    have hn := St.nb_eq s
    have IB := fun x => in_any s.body (here ++ [n + 1]) (p + 1) thr (n + 1) (p + 1) (Nat.le_refl _) x
    have IL := fun x => in_any s.els (here ++ [n + 2 + St.nbs s.body]) (p + 1 + St.sizes s.body) thr (n + 2 + St.nbs s.body) (p + 1 + St.sizes s.body) (Nat.le_refl _) x
    have IR := fun x => in_any l here f thr (n + s.nb) (p + s.size) (by omega) x
    -- the last of what stands within
    have lb : ∀ x ∈ many s.body (here ++ [n + 1]) (p + 1) thr (n + 1) (p + 1), n < x.last ∧ x.last ≤ n + 1 + St.nbs s.body ∧ p < x.f := fun x hx => by
      rcases (IB x hx).own with ⟨h1, h2⟩ | ⟨h1, h2, h3⟩
      · unfold An.last; rw [h1, last_snoc, h2]; omega
      · omega
    have ll : ∀ x ∈ many s.els (here ++ [n + 2 + St.nbs s.body]) (p + 1 + St.sizes s.body) thr (n + 2 + St.nbs s.body) (p + 1 + St.sizes s.body), n + 1 + St.nbs s.body < x.last ∧ p + St.sizes s.body < x.f := fun x hx => by
      rcases (IL x hx).own with ⟨h1, h2⟩ | ⟨h1, h2, h3⟩
      · unfold An.last; rw [h1, last_snoc, h2]; omega
      · omega
    refine List.pairwise_append.2 ⟨List.pairwise_cons.2 ⟨fun x hx => ?_, List.pairwise_append.2 ⟨hb _ _ thr _ _ (Nat.le_refl _) (by simp) (le_snoc hle (by omega)), he _ _ thr _ _ (Nat.le_refl _) (by simp) (le_snoc hle (by omega)), fun a ha x hx => ?_⟩⟩, ih (fun y hy => H y (List.mem_cons_of_mem _ hy)) here f thr _ _ (by omega) hne (fun c hc => by have := hle c hc; omega), fun a ha x hx => ?_⟩
    · rcases List.mem_append.1 hx with hx | hx
      · have h := IB x hx
        have h2 := lb x hx
        exact ⟨⟨fun hm => absurd hm (fresh_not hle h2.1), fun hm => by have : x.f ≤ p := hm; omega⟩, h.thr.symm, by have := h.lo; show p < _; omega, fun _ => h2.2.2⟩
      · have h := IL x hx
        have h2 := ll x hx
        exact ⟨⟨fun hm => absurd hm (fresh_not hle (by omega)), fun hm => by have : x.f ≤ p := hm; omega⟩, h.thr.symm, by have := h.lo; show p < _; omega, fun _ => by show p < _; omega⟩
    · have h := IB a ha
      have h' := IL x hx
      have h2 := ll x hx
      have hp : ∀ c ∈ a.path, c ≤ n + 1 + St.nbs s.body := fun c hc => by
        rcases h.fresh c hc with h1 | h1
        · have := le_snoc hle (Nat.le_succ n) c h1; omega
        · omega
      have e1 := h.hi
      have e2 := St.size_pos a.s
      have e3 := h'.lo
      exact ⟨⟨fun hm => absurd hm (fresh_not hp h2.1), fun hm => by omega⟩, h.thr.trans h'.thr.symm, by omega, fun hm => by omega⟩
    · have h' := IR x hx
      -- what holds of a, wherever it stands in s
      have h : In a [s] here f thr n p := by
        have := in_any [s] here f thr n p hf a (by rw [many, many, List.append_nil, one_eq]; exact ha)
        exact this
      have hnb : St.nbs [s] = s.nb := by simp [St.nbs]
      have hsz : St.sizes [s] = s.size := by simp [St.sizes]
      have e1 := h.hi
      have e2 := St.size_pos a.s
      have e3 := h'.lo
      rw [hsz] at e1
      have hp : ∀ c ∈ a.path, c ≤ n + s.nb := fun c hc => by
        rcases h.fresh c hc with h1 | h1
        · have := hle c h1; omega
        · rw [hnb] at h1; omega
      refine ⟨?_, h.thr.trans h'.thr.symm, by omega, fun hm => by omega⟩
      rcases h'.own with ⟨h1, h2⟩ | ⟨h1, h2, h3⟩
      · have : x.last ∈ here := by unfold An.last; rw [h1]; exact last_mem hne
        have h4 := h.lo
        exact ⟨fun _ => by omega, fun _ => h.sub _ this⟩
      · exact ⟨fun hm => absurd hm (fresh_not hp h1), fun hm => by omega⟩
theorem vis_any (l : List St) : PVis l := vis_of l fun s _ => St.ind (P := fun s => PVis s.body ∧ PVis s.els) (fun s hb hl => ⟨vis_of s.body hb, vis_of s.els hl⟩) s
/-- Of a whole program. -/
structure InT (x : An) (t : List (List St)) (thr n p : Nat) : Prop where
  tlo : thr ≤ x.thr
  lo : p ≤ x.num
  hi : x.num + x.s.size ≤ p + tsz t
  ff : p ≤ x.f ∧ x.f ≤ x.num
  fresh : ∀ c ∈ x.path, n < c ∧ c ≤ n + tnb t
  lastm : x.last ∈ x.path
def VisT (a b : An) : Prop := ((b.last ∈ a.path ∧ b.thr = a.thr) ↔ b.f ≤ a.num) ∧ a.num < b.num ∧ (b.num < a.num + a.s.size → a.num < b.f) ∧ a.thr ≤ b.thr
theorem inT : ∀ (t : List (List St)) (thr n p : Nat), ∀ x ∈ allA t thr n p, InT x t thr n p
  | [], thr, n, p, x, hx => by simp [allA] at hx
  | b :: t, thr, n, p, x, hx => by
    rw [allA] at hx
    have hs : tsz (b :: t) = St.sizes b + tsz t := rfl
    have hn : tnb (b :: t) = 1 + St.nbs b + tnb t := rfl
    rcases List.mem_append.1 hx with hx | hx
    · have h := in_any b [n + 1] p thr (n + 1) p (Nat.le_refl _) x hx
      refine ⟨by rw [h.thr]; exact Nat.le_refl _, h.lo, by have := h.hi; omega, ⟨?_, h.ff⟩, fun c hc => ?_, ?_⟩
      · rcases h.own with ⟨_, h2⟩ | ⟨_, _, h3⟩ <;> omega
      · rcases h.fresh c hc with h1 | h1
        · rw [List.mem_singleton.1 h1]; omega
        · omega
      · exact last_mem (fun e => by have := h.sub (n + 1) List.mem_cons_self; rw [e] at this; cases this)
    · have h := inT t (thr + 1) (n + 1 + St.nbs b) (p + St.sizes b) x hx
      exact ⟨by have := h.tlo; omega, by have := h.lo; omega, by have := h.hi; omega, ⟨by have := h.ff.1; omega, h.ff.2⟩, fun c hc => by have := h.fresh c hc; omega, h.lastm⟩
theorem visT : ∀ (t : List (List St)) (thr n p : Nat), (allA t thr n p).Pairwise VisT
  | [], thr, n, p => by simp [allA]
  | b :: t, thr, n, p => by
    rw [allA]
    refine List.pairwise_append.2 ⟨?_, visT t _ _ _, fun a ha x hx => ?_⟩
    · refine (vis_any b [n + 1] p thr (n + 1) p (Nat.le_refl _) (by simp) (fun c hc => by rw [List.mem_singleton.1 hc]; exact Nat.le_refl _)).imp fun {a x} h => ?_
      exact ⟨⟨fun hm => h.1.1 hm.1, fun hm => ⟨h.1.2 hm, h.2.1.symm⟩⟩, h.2.2.1, h.2.2.2, Nat.le_of_eq h.2.1⟩
    · have h := in_any b [n + 1] p thr (n + 1) p (Nat.le_refl _) a ha
      have h' := inT t _ _ _ x hx
      have e1 := h.hi
      have e2 := St.size_pos a.s
      have e3 := h'.ff
      have e4 := h'.tlo
      have e5 := h.thr
      have e6 := h'.lo
      exact ⟨⟨fun hm => by have := hm.2; omega, fun hm => by omega⟩, by omega, fun hm => by omega, by omega⟩
end Jf
end Go.Proofs.Ytnfkjmafhaecgaa
