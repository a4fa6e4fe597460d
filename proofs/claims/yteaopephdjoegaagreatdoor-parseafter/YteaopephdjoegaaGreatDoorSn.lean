/- What is shown is read, said plainly: of texts with a program's tokens. -/
import Derived.Test.YteaopephdjoegaaGreatDoorPo
namespace Go.Proofs.YteaopephdjoegaaGreatDoor
open Go.RowKit
namespace Ps
open Lx (Core)
open Px (hd isNm ba e0 T C D Wf)
open Pp

/-- What is read of a program's tokens, and what stands behind them. -/
theorem prog_reads' {e : Nat} (he : e ≤ 7) (pl : Pl) (d : List Dc) (t : List (List St)) (hd' : ∀ x ∈ d, GdD x) (ht : ∀ b ∈ t, ∀ s ∈ b, Gd e s) (hd1 : d.length ≤ 24) (ht0 : t ≠ []) (ht1 : t.length ≤ 4) (m : List Core) (hm : (hd m).2.1 ≠ tGo) :
    ∃ d' t', prog pl (dcoress d ++ (tcoress t ++ m)) = ended d' t' m ∧ d'.map Dc.strip = d.map Dc.strip ∧ t'.map St.strips = t.map St.strips := by
  have h0 : dk (hd (tcoress t ++ m)).2.1 = 0 := by
    cases t with
    | nil => exact absurd rfl ht0
    | cons b t =>
      show dk tGo = 0
      decide
  obtain ⟨d', e1, e2⟩ := decls_reads pl (tcoress t ++ m) h0 d hd' 24 [] hd1
  obtain ⟨t', e3, e4⟩ := threads_reads he pl m t ht 4 [] ht1 (fun _ => hm)
  refine ⟨d', t', ?_, e2, e4⟩
  unfold prog
  rw [Pp.bind_some e1, Pp.bind_some e3]
  rfl
theorem ne_of_map {α β : Type} {f : α → β} {l m : List α} (h : l.map f = m.map f) (hm : m ≠ []) : l ≠ [] := by
  rintro rfl
  cases m with
  | nil => exact hm rfl
  | cons _ _ => simp at h
theorem len_of_map {α β : Type} {f : α → β} {l m : List α} (h : l.map f = m.map f) : l.length = m.length := by
  have := congrArg List.length h
  simpa using this
/-- A text with just a program's tokens is read as that program. -/
theorem out_cr {e : Nat} (he : e ≤ 7) {s : List UInt8} (hl : s.length ≤ 6000) (d : List Dc) (t : List (List St)) (hd' : ∀ x ∈ d, GdD x) (ht : ∀ b ∈ t, ∀ s ∈ b, Gd e s) (hd1 : d.length ≤ 24) (ht0 : t ≠ []) (ht1 : t.length ≤ 4) (hc : Lx.cr s = some (dcoress d ++ (tcoress t ++ [(4, [], 0)]))) :
    ∃ d' t' q, Pp.out (ba s) = (some (d', t'), q) ∧ d'.map Dc.strip = d.map Dc.strip ∧ t'.map St.strips = t.map St.strips := by
  obtain ⟨ts, h1, h2⟩ := Px.cr_toks hl hc
  obtain ⟨d', t', e1, e2, e3⟩ := prog_reads' he (plOf (ba s) ts) d t hd' ht hd1 ht0 ht1 [(4, [], 0)] (by decide)
  have e4 : ended d' t' [(4, [], 0)] = (some (d', t'), [(4, [], 0)]) := if_pos ⟨ne_of_map e3 ht0, rfl⟩
  exact ⟨d', t', _, Pp.out_good (s := ba s) h1 (by rw [h2, e1, e4]), e2, e3⟩
theorem cr_shown {e : Nat} (d : List Dc) (t : List (List St)) (hd' : ∀ x ∈ d, GdD x) (ht : ∀ b ∈ t, ∀ s ∈ b, Gd e s) : Lx.cr (shown d t) = some (dcoress d ++ (tcoress t ++ [(4, [], 0)])) := by
  have := shown_lex d t hd' ht []
  rw [List.append_nil, Lx.cr_nil] at this
  rw [this]; simp
theorem out_shown {e : Nat} (he : e ≤ 7) (d : List Dc) (t : List (List St)) (hl : (shown d t).length ≤ 6000) (hd' : ∀ x ∈ d, GdD x) (ht : ∀ b ∈ t, ∀ s ∈ b, Gd e s) (hd1 : d.length ≤ 24) (ht0 : t ≠ []) (ht1 : t.length ≤ 4) :
    ∃ d' t' q, Pp.out (ba (shown d t)) = (some (d', t'), q) ∧ d'.map Dc.strip = d.map Dc.strip ∧ t'.map St.strips = t.map St.strips := out_cr he hl d t hd' ht hd1 ht0 ht1 (cr_shown d t hd' ht)
theorem shown_len {e : Nat} (he : e ≤ 3) (d : List Dc) (t : List (List St)) (hd' : ∀ x ∈ d, GdD x) (ht : ∀ b ∈ t, (∀ s ∈ b, Gd e s) ∧ St.sizes b ≤ 16) : (shown d t).length ≤ 22 * d.length + 1159 * t.length := by
  have h1 := dtexts_len d hd'
  have h2 := ttexts_len he t ht
  unfold shown
  rw [List.length_append]; omega
theorem shown_split (d : List Dc) (a b : List St) : shown d [a] ++ shown [] [b] = shown d [a, b] := by
  simp [shown, dtexts, ttexts]
/-- Another token behind a program: nothing is read, and that token is where it can't stand. -/
theorem out_more {e : Nat} (he : e ≤ 7) {a : List UInt8} {w : List UInt8} (hl : (a ++ 10 :: w).length ≤ 6000) (d : List Dc) (t : List (List St)) (hd' : ∀ x ∈ d, GdD x) (ht : ∀ b ∈ t, ∀ s ∈ b, Gd e s) (hd1 : d.length ≤ 24) (ht0 : t ≠ []) (ht1 : t.length ≤ 4) (hc : Lx.cr (a ++ [10]) = some (dcoress d ++ (tcoress t ++ [(4, [], 0)])))
    {kd n : Nat} (hw : Lx.toks w = .good [⟨kd, 0, w, n⟩, ⟨4, w.length, [], 0⟩]) (hk : kd ≠ 4) (hg : w ≠ tGo) :
    Pp.out (ba (a ++ 10 :: w)) = (none, a.length + 1) := by
  have hla : (a ++ [10]).length ≤ 6000 := by simp at hl ⊢; omega
  obtain ⟨ts0, g1, g2⟩ := Px.cr_toks hla hc
  have h0 := Lx.toks_feed a [] hla
  have h3 := Lx.toks_feed a w hl
  cases hta : Lx.toks a with
  | bad q => rw [hta, g1] at h0; cases h0
  | good ts =>
    rw [hta] at h0 h3
    have h00 : Lx.toks (a ++ [10]) = .good (ts.dropLast ++ [⟨4, 0 + (a.length + 1), [], 0⟩]) := by rw [h0]; rfl
    rw [g1] at h00
    injection h00 with h00
    rw [h00, List.map_append, ← List.append_assoc] at g2
    have g3 : ts.dropLast.map Lx.Tk.core = dcoress d ++ tcoress t := (List.append_inj' g2 rfl).1
    rw [hw] at h3
    obtain ⟨d', t', e1, e2, e3⟩ := prog_reads' he (plOf (ba (a ++ 10 :: w)) (ts.dropLast ++ [⟨kd, 0 + (a.length + 1), w, n⟩, ⟨4, w.length + (a.length + 1), [], 0⟩])) d t hd' ht hd1 ht0 ht1 [(kd, w, n), (4, [], 0)] hg
    have e4 : ended d' t' [(kd, w, n), (4, [], 0)] = (none, [(kd, w, n), (4, [], 0)]) := if_neg fun h => hk h.2
    have h5 : Lx.toks (a ++ 10 :: w) = .good (ts.dropLast ++ [⟨kd, 0 + (a.length + 1), w, n⟩, ⟨4, w.length + (a.length + 1), [], 0⟩]) := by rw [h3]; rfl
    have h6 : (ts.dropLast ++ ([⟨kd, 0 + (a.length + 1), w, n⟩, ⟨4, w.length + (a.length + 1), [], 0⟩] : List Lx.Tk)).map Lx.Tk.core = dcoress d ++ (tcoress t ++ [(kd, w, n), (4, [], 0)]) := by
      rw [List.map_append, g3, List.append_assoc]
      rfl
    rw [Pp.out_good (s := ba (a ++ 10 :: w)) (r := none) (m := [(kd, w, n), (4, [], 0)]) h5 (by rw [h6, e1, e4])]
    simp

/-! ### Lines, and what stands between them -/
theorem core_pre (acc : List Lx.Tk) (o : Lx.Out) : (o.pre acc).core = o.core.map fun ts => acc.map Lx.Tk.core ++ ts := by
  cases o <;> simp [Lx.Out.pre, Lx.Out.core]
theorem core_andThen (A B : Lx.Out) : (A.andThen B).core = A.core.bind fun xs => B.core.map fun ts => xs.dropLast ++ ts := by
  cases A with
  | bad q => rfl
  | good ts =>
    show (B.pre ts.dropLast).core = (some (ts.map Lx.Tk.core)).bind _
    rw [core_pre, Option.bind_some, List.map_dropLast]
theorem cr_feed (a : List UInt8) {b b' : List UInt8} (h : Lx.cr b = Lx.cr b') : Lx.cr (a ++ 10 :: b) = Lx.cr (a ++ 10 :: b') := by
  have key : ∀ b, Lx.cr (a ++ 10 :: b) = (Lx.cr a).bind fun xs => (Lx.cr b).map fun ts => xs.dropLast ++ ts := fun b => by
    have h1 := Lx.run_feed b (b.length + 1) (by omega) (a.length + 1) 0 ((a ++ 10 :: b).length + 1) a (by omega) (by omega)
    show (Lx.run ((a ++ 10 :: b).length + 1) 0 (a ++ 10 :: b)).core = _
    rw [h1, core_andThen, Lx.cr_of _ _ _ (by omega), Lx.cr_of _ _ _ (by omega)]
  rw [key, key, h]
/-- Lines, with something ahead of each. -/
def mix (g : Nat → List UInt8) : Nat → List (List UInt8) → List UInt8
  | _, [] => []
  | i, l :: r => g i ++ (l ++ mix g (i + 1) r)
theorem mix_snoc (g : Nat → List UInt8) : ∀ (L : List (List UInt8)) (i : Nat) (x : List UInt8), mix g i (L ++ [x]) = mix g i L ++ g (i + L.length) ++ x
  | [], i, x => by simp [mix]
  | y :: L, i, x => by
    rw [List.cons_append, mix, mix, mix_snoc g L (i + 1) x, List.length_cons, show i + 1 + L.length = i + (L.length + 1) by omega]
    simp
theorem mix_take (g : Nat → List UInt8) (L : List (List UInt8)) (k : Nat) (h : k < L.length) : mix g 0 (L.take (k + 1)) = mix g 0 (L.take k) ++ g k ++ L[k] := by
  rw [List.take_succ_eq_append_getElem h, mix_snoc, List.length_take, Nat.min_eq_left (by omega), Nat.zero_add]
/-- Each line ends with a line feed. -/
def Fed (L : List (List UInt8)) : Prop := ∀ x ∈ L, ∃ a, x = a ++ [10]
theorem mix_cr (g : Nat → List UInt8) (hg : ∀ i, Lexes (g i) []) : ∀ (L : List (List UInt8)), Fed L → ∀ i, Lx.cr (mix g i L) = Lx.cr L.flatten
  | [], _, i => rfl
  | x :: L, h, i => by
    obtain ⟨a, rfl⟩ := h x (List.mem_cons_self ..)
    have ih := mix_cr g hg L (fun y hy => h y (List.mem_cons_of_mem _ hy)) (i + 1)
    rw [mix, hg i, List.flatten_cons, List.append_assoc, List.append_assoc]
    show (Lx.cr (a ++ 10 :: mix g (i + 1) L)).map (fun ts => [] ++ ts) = Lx.cr (a ++ 10 :: L.flatten)
    rw [cr_feed a ih]
    cases Lx.cr (a ++ 10 :: L.flatten) <;> rfl
theorem mix_ends (g : Nat → List UInt8) : ∀ (L : List (List UInt8)), Fed L → L ≠ [] → ∀ i, ∃ a, mix g i L = a ++ [10]
  | [], _, h, _ => absurd rfl h
  | [x], h, _, i => by
    obtain ⟨a, rfl⟩ := h x (List.mem_cons_self ..)
    exact ⟨g i ++ a, by simp [mix]⟩
  | x :: y :: L, h, _, i => by
    obtain ⟨a, ha⟩ := mix_ends g (y :: L) (fun z hz => h z (List.mem_cons_of_mem _ hz)) (by simp) (i + 1)
    exact ⟨g i ++ (x ++ a), by rw [mix, ha]; simp⟩
theorem mix_len (g : Nat → List UInt8) (c : Nat) (hg : ∀ i, (g i).length ≤ c) : ∀ (L : List (List UInt8)), Fed L → ∀ i, (mix g i L).length ≤ (c + 1) * L.flatten.length
  | [], _, i => by simp [mix]
  | x :: L, h, i => by
    obtain ⟨a, rfl⟩ := h x (List.mem_cons_self ..)
    have ih := mix_len g c hg L (fun y hy => h y (List.mem_cons_of_mem _ hy)) (i + 1)
    have h1 := hg i
    rw [mix, List.flatten_cons]
    simp only [List.length_append, List.length_cons, List.length_nil]
    rw [Nat.mul_add, Nat.mul_add]
    have : a.length ≤ (c + 1) * a.length := Nat.le_mul_of_pos_left _ (by omega)
    omega
/-- What may stand ahead of a line. -/
def gapOf (k : Nat) : List UInt8 := if k = 1 then [10] else if k = 2 then [35, 32, 103, 111, 32, 123, 10] else if k = 3 then [9, 32, 10, 35, 10] else []
theorem gap_len (k : Nat) : (gapOf k).length ≤ 7 := by unfold gapOf; repeat' split
                                                       all_goals decide
theorem gap_lex (k : Nat) : Lexes (gapOf k) [] := by
  intro r
  have e : ∀ o : Option (List Core), o.map (fun ts => [] ++ ts) = o := fun o => by cases o <;> rfl
  rw [e]
  unfold gapOf
  split
  · exact Lx.cr_blank 10 r (by decide)
  · split
    · show Lx.cr (35 :: ([32, 103, 111, 32, 123] ++ 10 :: r)) = _
      rw [Lx.cr_note, Lx.takeWhile_stop Lx.noFeed _ _ 10 (by decide)]
      show Lx.cr (10 :: r) = _
      exact Lx.cr_blank 10 r (by decide)
    · split
      · show Lx.cr (9 :: 32 :: 10 :: 35 :: 10 :: r) = _
        rw [Lx.cr_blank 9 _ (by decide), Lx.cr_blank 32 _ (by decide), Lx.cr_blank 10 _ (by decide), Lx.cr_note]
        show Lx.cr ((10 :: r).drop 0) = _
        exact Lx.cr_blank 10 r (by decide)
      · rfl
end Ps
end Go.Proofs.YteaopephdjoegaaGreatDoor
