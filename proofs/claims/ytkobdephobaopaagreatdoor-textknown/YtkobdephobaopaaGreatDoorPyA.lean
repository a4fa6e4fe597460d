/- What is shown is read, said plainly: of texts with a program's tokens. What may be read: programs whose texts say them; they are read as they are: said plainly, of expressions of any length. No program, no condition. What was read is such as a text can say; what is alike is so together: said plainly. No program, no condition. How a program is printed, said plainly: what is printed is what is shown, or nothing. No program, no condition. -/
import Derived.Test.YtkobdephobaopaaGreatDoorPo
import Derived.Lib.ItoaLen

namespace Go.Proofs.YtkobdephobaopaaGreatDoor
open Go.RowKit
namespace Ps
open Lx (Core)
open Px (hd isNm ba e0 T C D Wf)
open Pp

/-- What is read of a program's tokens, and what stands behind them. -/
theorem prog_reads' {e : Nat} (he : e ≤ 7) (pl : Pl) (d : List Dc) (t : List (List St)) (hd' : ∀ x ∈ d, GdD x) (ht : ∀ b ∈ t, ∀ s ∈ b, Gd e s) (hd1 : d.length ≤ 24) (ht0 : t ≠ []) (ht1 : t.length ≤ 4) (m : List Core) (hm : (hd m).2.1 ≠ tGo) :
    ∃ d' t', prog pl (dcoress d ++ (tcoress t ++ m)) = ended d' t' m ∧ d'.map Dc.strip = d.map Dc.strip ∧ t'.map St.strips = t.map St.strips := by
  have h0 : dk (hd (tcoress t ++ m)).2.1 = 0 := by
    cases t with
    | nil => exact absurd rfl ht0
    | cons b t =>
      show dk tGo = 0
      decide
  obtain ⟨d', e1, e2⟩ := decls_reads pl (tcoress t ++ m) h0 d hd' 24 [] hd1
  obtain ⟨t', e3, e4⟩ := threads_reads he pl m t ht 4 [] ht1 (fun _ => hm)
  refine ⟨d', t', ?_, e2, e4⟩
  unfold prog
  rw [Pp.bind_some e1, Pp.bind_some e3]
  rfl
theorem ne_of_map {α β : Type} {f : α → β} {l m : List α} (h : l.map f = m.map f) (hm : m ≠ []) : l ≠ [] := by
  rintro rfl
  cases m with
  | nil => exact hm rfl
  | cons _ _ => simp at h
theorem len_of_map {α β : Type} {f : α → β} {l m : List α} (h : l.map f = m.map f) : l.length = m.length := by
  have := congrArg List.length h
  simpa using this
/-- A text with just a program's tokens is read as that program. -/
theorem out_cr {e : Nat} (he : e ≤ 7) {s : List UInt8} (hl : s.length ≤ 6000) (d : List Dc) (t : List (List St)) (hd' : ∀ x ∈ d, GdD x) (ht : ∀ b ∈ t, ∀ s ∈ b, Gd e s) (hd1 : d.length ≤ 24) (ht0 : t ≠ []) (ht1 : t.length ≤ 4) (hc : Lx.cr s = some (dcoress d ++ (tcoress t ++ [(4, [], 0)]))) :
    ∃ d' t' q, Pp.out (ba s) = (some (d', t'), q) ∧ d'.map Dc.strip = d.map Dc.strip ∧ t'.map St.strips = t.map St.strips := by
  obtain ⟨ts, h1, h2⟩ := Px.cr_toks hl hc
  obtain ⟨d', t', e1, e2, e3⟩ := prog_reads' he (plOf (ba s) ts) d t hd' ht hd1 ht0 ht1 [(4, [], 0)] (by decide)
  have e4 : ended d' t' [(4, [], 0)] = (some (d', t'), [(4, [], 0)]) := if_pos ⟨ne_of_map e3 ht0, rfl⟩
  exact ⟨d', t', _, Pp.out_good (s := ba s) h1 (by rw [h2, e1, e4]), e2, e3⟩
theorem cr_shown {e : Nat} (d : List Dc) (t : List (List St)) (hd' : ∀ x ∈ d, GdD x) (ht : ∀ b ∈ t, ∀ s ∈ b, Gd e s) : Lx.cr (shown d t) = some (dcoress d ++ (tcoress t ++ [(4, [], 0)])) := by
  have := shown_lex d t hd' ht []
  rw [List.append_nil, Lx.cr_nil] at this
  rw [this]; simp
theorem out_shown {e : Nat} (he : e ≤ 7) (d : List Dc) (t : List (List St)) (hl : (shown d t).length ≤ 6000) (hd' : ∀ x ∈ d, GdD x) (ht : ∀ b ∈ t, ∀ s ∈ b, Gd e s) (hd1 : d.length ≤ 24) (ht0 : t ≠ []) (ht1 : t.length ≤ 4) :
    ∃ d' t' q, Pp.out (ba (shown d t)) = (some (d', t'), q) ∧ d'.map Dc.strip = d.map Dc.strip ∧ t'.map St.strips = t.map St.strips := out_cr he hl d t hd' ht hd1 ht0 ht1 (cr_shown d t hd' ht)
theorem shown_len {e : Nat} (he : e ≤ 3) (d : List Dc) (t : List (List St)) (hd' : ∀ x ∈ d, GdD x) (ht : ∀ b ∈ t, (∀ s ∈ b, Gd e s) ∧ St.sizes b ≤ 16) : (shown d t).length ≤ 22 * d.length + 1159 * t.length := by
  have h1 := dtexts_len d hd'
  have h2 := ttexts_len he t ht
  unfold shown
  rw [List.length_append]; omega
theorem shown_split (d : List Dc) (a b : List St) : shown d [a] ++ shown [] [b] = shown d [a, b] := by
  simp [shown, dtexts, ttexts]
/-- Another token behind a program: nothing is read, and that token is where it can't stand. -/
theorem out_more {e : Nat} (he : e ≤ 7) {a : List UInt8} {w : List UInt8} (hl : (a ++ 10 :: w).length ≤ 6000) (d : List Dc) (t : List (List St)) (hd' : ∀ x ∈ d, GdD x) (ht : ∀ b ∈ t, ∀ s ∈ b, Gd e s) (hd1 : d.length ≤ 24) (ht0 : t ≠ []) (ht1 : t.length ≤ 4) (hc : Lx.cr (a ++ [10]) = some (dcoress d ++ (tcoress t ++ [(4, [], 0)])))
    {kd n : Nat} (hw : Lx.toks w = .good [⟨kd, 0, w, n⟩, ⟨4, w.length, [], 0⟩]) (hk : kd ≠ 4) (hg : w ≠ tGo) :
    Pp.out (ba (a ++ 10 :: w)) = (none, a.length + 1) := by
  have hla : (a ++ [10]).length ≤ 6000 := by simp at hl ⊢; omega
  obtain ⟨ts0, g1, g2⟩ := Px.cr_toks hla hc
  have h0 := Lx.toks_feed a [] hla
  have h3 := Lx.toks_feed a w hl
  cases hta : Lx.toks a with
  | bad q => rw [hta, g1] at h0; cases h0
  | good ts =>
    rw [hta] at h0 h3
    have h00 : Lx.toks (a ++ [10]) = .good (ts.dropLast ++ [⟨4, 0 + (a.length + 1), [], 0⟩]) := by rw [h0]; rfl
    rw [g1] at h00
    injection h00 with h00
    rw [h00, List.map_append, ← List.append_assoc] at g2
    have g3 : ts.dropLast.map Lx.Tk.core = dcoress d ++ tcoress t := (List.append_inj' g2 rfl).1
    rw [hw] at h3
    obtain ⟨d', t', e1, e2, e3⟩ := prog_reads' he (plOf (ba (a ++ 10 :: w)) (ts.dropLast ++ [⟨kd, 0 + (a.length + 1), w, n⟩, ⟨4, w.length + (a.length + 1), [], 0⟩])) d t hd' ht hd1 ht0 ht1 [(kd, w, n), (4, [], 0)] hg
    have e4 : ended d' t' [(kd, w, n), (4, [], 0)] = (none, [(kd, w, n), (4, [], 0)]) := if_neg fun h => hk h.2
    have h5 : Lx.toks (a ++ 10 :: w) = .good (ts.dropLast ++ [⟨kd, 0 + (a.length + 1), w, n⟩, ⟨4, w.length + (a.length + 1), [], 0⟩]) := by rw [h3]; rfl
    have h6 : (ts.dropLast ++ ([⟨kd, 0 + (a.length + 1), w, n⟩, ⟨4, w.length + (a.length + 1), [], 0⟩] : List Lx.Tk)).map Lx.Tk.core = dcoress d ++ (tcoress t ++ [(kd, w, n), (4, [], 0)]) := by
      rw [List.map_append, g3, List.append_assoc]
      rfl
    rw [Pp.out_good (s := ba (a ++ 10 :: w)) (r := none) (m := [(kd, w, n), (4, [], 0)]) h5 (by rw [h6, e1, e4])]
    simp

/-! ### Lines, and what stands between them -/
theorem core_pre (acc : List Lx.Tk) (o : Lx.Out) : (o.pre acc).core = o.core.map fun ts => acc.map Lx.Tk.core ++ ts := by
  cases o <;> simp [Lx.Out.pre, Lx.Out.core]
theorem core_andThen (A B : Lx.Out) : (A.andThen B).core = A.core.bind fun xs => B.core.map fun ts => xs.dropLast ++ ts := by
  cases A with
  | bad q => rfl
  | good ts =>
    show (B.pre ts.dropLast).core = (some (ts.map Lx.Tk.core)).bind _
    rw [core_pre, Option.bind_some, List.map_dropLast]
theorem cr_feed (a : List UInt8) {b b' : List UInt8} (h : Lx.cr b = Lx.cr b') : Lx.cr (a ++ 10 :: b) = Lx.cr (a ++ 10 :: b') := by
  have key : ∀ b, Lx.cr (a ++ 10 :: b) = (Lx.cr a).bind fun xs => (Lx.cr b).map fun ts => xs.dropLast ++ ts := fun b => by
    have h1 := Lx.run_feed b (b.length + 1) (by omega) (a.length + 1) 0 ((a ++ 10 :: b).length + 1) a (by omega) (by omega)
    show (Lx.run ((a ++ 10 :: b).length + 1) 0 (a ++ 10 :: b)).core = _
    rw [h1, core_andThen, Lx.cr_of _ _ _ (by omega), Lx.cr_of _ _ _ (by omega)]
  rw [key, key, h]
/-- Lines, with something ahead of each. -/
def mix (g : Nat → List UInt8) : Nat → List (List UInt8) → List UInt8
  | _, [] => []
  | i, l :: r => g i ++ (l ++ mix g (i + 1) r)
theorem mix_snoc (g : Nat → List UInt8) : ∀ (L : List (List UInt8)) (i : Nat) (x : List UInt8), mix g i (L ++ [x]) = mix g i L ++ g (i + L.length) ++ x
  | [], i, x => by simp [mix]
  | y :: L, i, x => by
    rw [List.cons_append, mix, mix, mix_snoc g L (i + 1) x, List.length_cons, show i + 1 + L.length = i + (L.length + 1) by omega]
    simp
theorem mix_take (g : Nat → List UInt8) (L : List (List UInt8)) (k : Nat) (h : k < L.length) : mix g 0 (L.take (k + 1)) = mix g 0 (L.take k) ++ g k ++ L[k] := by
  rw [List.take_succ_eq_append_getElem h, mix_snoc, List.length_take, Nat.min_eq_left (by omega), Nat.zero_add]
/-- Each line ends with a line feed. -/
def Fed (L : List (List UInt8)) : Prop := ∀ x ∈ L, ∃ a, x = a ++ [10]
theorem mix_cr (g : Nat → List UInt8) (hg : ∀ i, Lexes (g i) []) : ∀ (L : List (List UInt8)), Fed L → ∀ i, Lx.cr (mix g i L) = Lx.cr L.flatten
  | [], _, i => rfl
  | x :: L, h, i => by
    obtain ⟨a, rfl⟩ := h x (List.mem_cons_self ..)
    have ih := mix_cr g hg L (fun y hy => h y (List.mem_cons_of_mem _ hy)) (i + 1)
    rw [mix, hg i, List.flatten_cons, List.append_assoc, List.append_assoc]
    show (Lx.cr (a ++ 10 :: mix g (i + 1) L)).map (fun ts => [] ++ ts) = Lx.cr (a ++ 10 :: L.flatten)
    rw [cr_feed a ih]
    cases Lx.cr (a ++ 10 :: L.flatten) <;> rfl
theorem mix_ends (g : Nat → List UInt8) : ∀ (L : List (List UInt8)), Fed L → L ≠ [] → ∀ i, ∃ a, mix g i L = a ++ [10]
  | [], _, h, _ => absurd rfl h
  | [x], h, _, i => by
    obtain ⟨a, rfl⟩ := h x (List.mem_cons_self ..)
    exact ⟨g i ++ a, by simp [mix]⟩
  | x :: y :: L, h, _, i => by
    obtain ⟨a, ha⟩ := mix_ends g (y :: L) (fun z hz => h z (List.mem_cons_of_mem _ hz)) (by simp) (i + 1)
    exact ⟨g i ++ (x ++ a), by rw [mix, ha]; simp⟩
theorem mix_len (g : Nat → List UInt8) (c : Nat) (hg : ∀ i, (g i).length ≤ c) : ∀ (L : List (List UInt8)), Fed L → ∀ i, (mix g i L).length ≤ (c + 1) * L.flatten.length
  | [], _, i => by simp [mix]
  | x :: L, h, i => by
    obtain ⟨a, rfl⟩ := h x (List.mem_cons_self ..)
    have ih := mix_len g c hg L (fun y hy => h y (List.mem_cons_of_mem _ hy)) (i + 1)
    have h1 := hg i
    rw [mix, List.flatten_cons]
    simp only [List.length_append, List.length_cons, List.length_nil]
    rw [Nat.mul_add, Nat.mul_add]
    have : a.length ≤ (c + 1) * a.length := Nat.le_mul_of_pos_left _ (by omega)
    omega
/-- What may stand ahead of a line. -/
def gapOf (k : Nat) : List UInt8 := if k = 1 then [10] else if k = 2 then [35, 32, 103, 111, 32, 123, 10] else if k = 3 then [9, 32, 10, 35, 10] else []
theorem gap_len (k : Nat) : (gapOf k).length ≤ 7 := by unfold gapOf; repeat' split
                                                       all_goals decide
theorem gap_lex (k : Nat) : Lexes (gapOf k) [] := by
  intro r
  have e : ∀ o : Option (List Core), o.map (fun ts => [] ++ ts) = o := fun o => by cases o <;> rfl
  rw [e]
  unfold gapOf
  split
  · exact Lx.cr_blank 10 r (by decide)
  · split
    · show Lx.cr (35 :: ([32, 103, 111, 32, 123] ++ 10 :: r)) = _
      rw [Lx.cr_note, Lx.takeWhile_stop Lx.noFeed _ _ 10 (by decide)]
      show Lx.cr (10 :: r) = _
      exact Lx.cr_blank 10 r (by decide)
    · split
      · show Lx.cr (9 :: 32 :: 10 :: 35 :: 10 :: r) = _
        rw [Lx.cr_blank 9 _ (by decide), Lx.cr_blank 32 _ (by decide), Lx.cr_blank 10 _ (by decide), Lx.cr_note]
        show Lx.cr ((10 :: r).drop 0) = _
        exact Lx.cr_blank 10 r (by decide)
      · rfl
end Ps
end Go.Proofs.YtkobdephobaopaaGreatDoor

namespace Go.Proofs.YtkobdephobaopaaGreatDoor
open Go.RowKit
namespace Ps.Pu
open Lx (Core)
open Px (hd isNm ba e0 T C D Wf)
open Pp
open Ps
/-- An expression that a text can say. -/
structure GE (e : Ex) : Prop where
  wf : Wf e
  deep : D e 1 ≤ 8
/-- A statement that a text can say. -/
inductive Gd : Nat → St → Prop
  | assign (e : Nat) (a : List UInt8) (x : Ex) (p q : Nat) (ha : isNm a = true) (hx : GE x) : Gd e (.mk 1 (ba a) e0 0 x [] [] p q)
  | word (e : Nat) (k : Int) (a : List UInt8) (p q : Nat) (hk : k = 2 ∨ k = 3 ∨ k = 9 ∨ k = 10) (ha : isNm a = true) : Gd e (.mk k (ba a) e0 0 ex0 [] [] p q)
  | send (e : Nat) (a : List UInt8) (x : Ex) (p q : Nat) (ha : isNm a = true) (hx : GE x) : Gd e (.mk 4 (ba a) e0 0 x [] [] p q)
  | recv (e : Nat) (a b : List UInt8) (p q : Nat) (ha : isNm a = true) (hb : isNm b = true) : Gd e (.mk 5 (ba a) (ba b) 0 ex0 [] [] p q)
  | print (e : Nat) (x : Ex) (p q : Nat) (hx : GE x) : Gd e (.mk 6 e0 e0 0 x [] [] p q)
  | cond (e : Nat) (x : Ex) (b c : List St) (p q : Nat) (hx : GE x) (hb : ∀ s ∈ b, Gd e s) (hc : ∀ s ∈ c, Gd e s) : Gd (e + 1) (.mk 7 e0 e0 0 x b c p q)
  | rep (e : Nat) (n : Nat) (b : List St) (p q : Nat) (hn : n ≤ 9) (hb : ∀ s ∈ b, Gd e s) : Gd (e + 1) (.mk 8 e0 e0 n ex0 b [] p q)
theorem Gd.up {e : Nat} {s : St} (h : Gd e s) : Gd (e + 1) s := by
  induction h with
  | assign e a x p q ha hx => exact .assign _ a x p q ha hx
  | word e k a p q hk ha => exact .word _ k a p q hk ha
  | send e a x p q ha hx => exact .send _ a x p q ha hx
  | recv e a b p q ha hb => exact .recv _ a b p q ha hb
  | print e x p q hx => exact .print _ x p q hx
  | cond e x b c p q hx _ _ ib ic => exact .cond _ x b c p q hx ib ic
  | rep e n b p q hn _ ib => exact .rep _ n b p q hn ib
theorem Gd.le {e f : Nat} {s : St} (h : Gd e s) (hf : e ≤ f) : Gd f s := by
  induction hf with
  | refl => exact h
  | step _ ih => exact ih.up
theorem text_lex {e : Nat} {s : St} (h : Gd e s) : ∀ d, Lexes (text s d) (cores s) := by
  have fin : ∀ (d : Nat) (t : List UInt8) (c : List Core), LexesS t c → Lexes (tabs d ++ (t ++ [10])) c := fun d t c ht => by
    have h1 := (tabs_lex d).app (ht.app feed_lex feed_stop)
    simpa using h1
  induction h with
  | assign e a x p q ha hx =>
    intro d
    rw [text, cores, line_assign]
    refine fin d _ _ ?_
    have := (word_lex (nm_word ha)).appS (is_lex.appS (T_lex hx.wf)) fun r _ => by rw [List.append_assoc]; exact is_stop _
    simpa [lcores, ba] using this
  | word e k a p q hk ha =>
    intro d
    rw [text, cores, line_word hk]
    refine fin d _ _ ?_
    have := (wordb (kw_word hk)).appS (word_lex (nm_word ha))
    have e1 : lcores k (ba a) e0 0 ex0 (coress []) (csome [] (coress [])) = [cw (kw k), cw a] := by
      unfold lcores
      rcases hk with rfl | rfl | rfl | rfl <;> simp [ba]
    rw [e1]
    exact this
  | send e a x p q ha hx =>
    intro d
    rw [text, cores, line_send]
    refine fin d _ _ ?_
    have := (wordb (t := [115, 101, 110, 100]) (by decide)).appS ((wordb (nm_word ha)).appS (T_lex hx.wf))
    simpa [lcores, ba] using this
  | recv e a b p q ha hb =>
    intro d
    rw [text, cores, line_recv]
    refine fin d _ _ ?_
    have := (wordb (t := [114, 101, 99, 118]) (by decide)).appS ((wordb (nm_word ha)).appS (word_lex (nm_word hb)))
    simpa [lcores, ba] using this
  | print e x p q hx =>
    intro d
    rw [text, cores, line_print]
    refine fin d _ _ ?_
    have := (wordb (t := [112, 114, 105, 110, 116]) (by decide)).appS (T_lex hx.wf)
    simpa [lcores, ba] using this
  | cond e x b c p q hx _ _ ib ic =>
    intro d
    rw [text, cores]
    refine fin d _ _ (Lexes.toS ?_)
    have hb := texts_lex (d + 1) b fun s hs => ib s hs (d + 1)
    have hc := texts_lex (d + 1) c fun s hs => ic s hs (d + 1)
    have h1 := (T_lex hx.wf).app brace_lex brace_stop
    cases c with
    | nil =>
      have := (wordb (t := [105, 102]) (by decide)).app (h1.app (hb.app (shut_tail d)))
      rw [show some' [] (texts [] (d + 1)) = none from rfl, line_if]
      simpa [lcores, csome] using this
    | cons s c =>
      have h2 := (word_lex (t := tElse) (by decide)).app brace_lex brace_stop
      have := (wordb (t := [105, 102]) (by decide)).app (h1.app (hb.app ((tabs_lex d).app (shut_lex.app ((blank_one (b := 32) (by decide)).app (h2.app (hc.app (shut_tail d))))))))
      rw [show some' (s :: c) (texts (s :: c) (d + 1)) = some (texts (s :: c) (d + 1)) from rfl, line_ifelse]
      simpa [lcores, csome] using this
  | rep e n b p q hn _ ib =>
    intro d
    rw [text, cores, line_rep]
    refine fin d _ _ (Lexes.toS ?_)
    have hb := texts_lex (d + 1) b fun s hs => ib s hs (d + 1)
    have h1 := (num_lex (n := n) (by omega)).app brace_lex brace_stop
    have := (wordb (t := [114, 101, 112, 101, 97, 116]) (by decide)).app (h1.app (hb.app (shut_tail d)))
    simpa [lcores] using this
theorem cores_head {e : Nat} {s : St} (h : Gd e s) : ∃ t r, cores s = cw t :: r ∧ t ≠ tElse ∧ t ≠ tShut := by
  cases h with
  | assign _ a x p q ha hx => exact ⟨a, _, by rw [cores]; unfold lcores; rw [if_pos rfl]; rfl, nm_else ha, nm_shut ha⟩
  | word _ k a p q hk ha =>
    refine ⟨kw k, [cw a], ?_, ?_, ?_⟩
    · rw [cores]; unfold lcores; rcases hk with rfl | rfl | rfl | rfl <;> simp [ba]
    · rcases hk with rfl | rfl | rfl | rfl <;> decide
    · rcases hk with rfl | rfl | rfl | rfl <;> decide
  | send _ a x p q ha hx => exact ⟨[115, 101, 110, 100], cw a :: C x 1, by rw [cores]; unfold lcores; simp [ba], by decide, by decide⟩
  | recv _ a b p q ha hb => exact ⟨[114, 101, 99, 118], [cw a, cw b], by rw [cores]; unfold lcores; simp [ba], by decide, by decide⟩
  | print _ x p q hx => exact ⟨[112, 114, 105, 110, 116], C x 1, by rw [cores]; unfold lcores; simp, by decide, by decide⟩
  | cond e x b c p q hx _ _ => exact ⟨[105, 102], _, by rw [cores]; unfold lcores; simp; rfl, by decide, by decide⟩
  | rep e n b p q hn _ => exact ⟨[114, 101, 112, 101, 97, 116], _, by rw [cores]; unfold lcores; simp; rfl, by decide, by decide⟩
theorem nx_cores {e : Nat} {s : St} (h : Gd e s) (m : List Core) : Nx (cores s ++ m) := by
  obtain ⟨t, r, e1, h1, _⟩ := cores_head h
  rw [e1]
  exact ⟨ok_kind (by show ¬ (1 = 3); decide), h1⟩
theorem read_at {x : Ex} (h : GE x) {m : List Core} (ho : Px.Ok 1 m) : Px.read (C x 1 ++ m) = (some x, m) := Px.expr_reads (Px.fac_ctx 8) (Px.fac_reads 8) x h.wf h.deep m ho
theorem stmts_reads {e : Nat} (pl : Pl) (f : Nat) (hf : e ≤ f) (m : List Core) : ∀ (l : List St), (∀ s ∈ l, Gd e s ∧ Rs e s) → ∀ F acc, (coress l ++ cs :: m).length < F →
    ∃ l', stmts (stmt pl (block pl f)) F acc (coress l ++ cs :: m) = (some (acc ++ l'), m) ∧ St.strips l' = St.strips l
  | [], _, F, acc, hF => by
    cases F with
    | zero => omega
    | succ F =>
      refine ⟨[], ?_, rfl⟩
      rw [coress, List.nil_append, stmts, if_pos (show (hd (cs :: m)).2.1 = tShut from rfl), List.append_nil]; rfl
  | a :: l, H, F, acc, hF => by
    cases F with
    | zero => omega
    | succ F =>
      obtain ⟨hg, hr⟩ := H a (List.mem_cons_self ..)
      have hnx : Nx (coress l ++ cs :: m) := by
        cases l with
        | nil => rw [coress]; exact nx_shut m
        | cons b l => rw [coress, List.append_assoc]; exact nx_cores (H b (by simp)).1 _
      obtain ⟨a', e1, e2⟩ := hr pl f _ hf hnx
      obtain ⟨t, r, e3, _, h3⟩ := cores_head hg
      rw [coress, List.append_assoc] at hF ⊢
      have hlen : (coress l ++ cs :: m).length < F := by
        rw [e3] at hF
        simp only [List.cons_append, List.length_cons, List.length_append] at hF ⊢
        omega
      obtain ⟨l', e4, e5⟩ := stmts_reads pl f hf m l (fun s hs => H s (List.mem_cons_of_mem _ hs)) F (acc ++ [a']) hlen
      refine ⟨a' :: l', ?_, by rw [St.strips, St.strips, e2, e5]⟩
      have hd1 : (hd (cores a ++ (coress l ++ cs :: m))).2.1 ≠ tShut := by rw [e3]; exact h3
      rw [stmts, if_neg hd1, e1]
      simp only []
      rw [e4]
      simp
theorem block_reads {e : Nat} (pl : Pl) (f : Nat) (hf : e ≤ f) (m : List Core) (l : List St) (H : ∀ s ∈ l, Gd e s ∧ Rs e s) : ∃ l', block pl (f + 1) (co :: (coress l ++ cs :: m)) = (some l', m) ∧ St.strips l' = St.strips l := by
  obtain ⟨l', h1, h2⟩ := stmts_reads pl f hf m l H ((coress l ++ cs :: m).length + 1) [] (by omega)
  refine ⟨l', ?_, h2⟩
  rw [block, if_pos (show (hd (co :: (coress l ++ cs :: m))).2.1 = tOpen from rfl)]
  exact h1
theorem stmt_reads {e : Nat} {s : St} (h : Gd e s) : Rs e s := by
  induction h with
  | assign e a x p q ha hx =>
    intro pl f m _ hm
    refine ⟨.mk 1 (ba a) e0 0 x [] [] (pl (cores (.mk 1 (ba a) e0 0 x [] [] p q) ++ m).length).1 (pl (cores (.mk 1 (ba a) e0 0 x [] [] p q) ++ m).length).2, ?_, by rw [St.strip_eq, St.strip_eq]; rfl⟩
    have ec : cores (.mk 1 (ba a) e0 0 x [] [] p q) ++ m = cw a :: (3, [61], 0) :: (C x 1 ++ m) := by rw [cores]; unfold lcores; rw [if_pos rfl]; simp [ba]
    rw [ec]
    rw [stmt_one _ _ (sk_nm ha)]
    unfold assign
    rw [Pp.bind_some (name_at ha _), Pp.bind_some (show skip tIs ((3, [61], 0) :: (C x 1 ++ m)) = (some (), C x 1 ++ m) from rfl), Pp.bind_some (read_at hx hm.ok)]
    rfl
  | word e k a p q hk ha =>
    intro pl f m _ hm
    have ec : cores (.mk k (ba a) e0 0 ex0 [] [] p q) ++ m = cw (kw k) :: cw a :: m := by rw [cores]; unfold lcores; rcases hk with rfl | rfl | rfl | rfl <;> simp [ba]
    have hsk : ((sk (kw k) : Nat) : Int) = k ∧ sk (kw k) ≠ 1 ∧ sk (kw k) ≠ 4 ∧ sk (kw k) ≠ 5 ∧ sk (kw k) ≠ 6 ∧ sk (kw k) ≠ 7 ∧ sk (kw k) ≠ 8 := by rcases hk with rfl | rfl | rfl | rfl <;> decide
    obtain ⟨k0, k1, k4, k5, k6, k7, k8⟩ := hsk
    refine ⟨.mk k (ba a) e0 0 ex0 [] [] (pl (cores (.mk k (ba a) e0 0 ex0 [] [] p q) ++ m).length).1 (pl (cores (.mk k (ba a) e0 0 ex0 [] [] p q) ++ m).length).2, ?_, by rw [St.strip_eq, St.strip_eq]; rfl⟩
    rw [ec]
    rw [stmt_kw _ _ (show sk (kw k) ≠ 1 from k1)]
    unfold behind
    rw [if_neg (show ¬ sk (kw k) = 4 from k4), if_neg (show ¬ sk (kw k) = 5 from k5), if_neg (show ¬ sk (kw k) = 6 from k6), if_neg (show ¬ sk (kw k) = 7 from k7), if_neg (show ¬ sk (kw k) = 8 from k8)]
    rw [Pp.bind_some (show name (cw a :: m) = _ from name_at ha _)]
    show (some (St.mk ((sk (kw k) : Nat) : Int) _ _ _ _ _ _ _ _), m) = _
    rw [k0]
  | send e a x p q ha hx =>
    intro pl f m _ hm
    have ec : cores (.mk 4 (ba a) e0 0 x [] [] p q) ++ m = cw [115, 101, 110, 100] :: cw a :: (C x 1 ++ m) := by rw [cores]; unfold lcores; simp [ba]
    refine ⟨.mk 4 (ba a) e0 0 x [] [] (pl (cores (.mk 4 (ba a) e0 0 x [] [] p q) ++ m).length).1 (pl (cores (.mk 4 (ba a) e0 0 x [] [] p q) ++ m).length).2, ?_, by rw [St.strip_eq, St.strip_eq]; rfl⟩
    rw [ec]
    rw [stmt_kw _ _ (show sk [115, 101, 110, 100] ≠ 1 by decide)]
    unfold behind
    rw [if_pos (show sk [115, 101, 110, 100] = 4 by decide)]
    rw [Pp.bind_some (show name (cw a :: (C x 1 ++ m)) = _ from name_at ha _), Pp.bind_some (read_at hx hm.ok)]
    rfl
  | recv e a b p q ha hb =>
    intro pl f m _ hm
    have ec : cores (.mk 5 (ba a) (ba b) 0 ex0 [] [] p q) ++ m = cw [114, 101, 99, 118] :: cw a :: cw b :: m := by rw [cores]; unfold lcores; simp [ba]
    refine ⟨.mk 5 (ba a) (ba b) 0 ex0 [] [] (pl (cores (.mk 5 (ba a) (ba b) 0 ex0 [] [] p q) ++ m).length).1 (pl (cores (.mk 5 (ba a) (ba b) 0 ex0 [] [] p q) ++ m).length).2, ?_, by rw [St.strip_eq, St.strip_eq]; rfl⟩
    rw [ec]
    rw [stmt_kw _ _ (show sk [114, 101, 99, 118] ≠ 1 by decide)]
    unfold behind
    rw [if_neg (show ¬ sk [114, 101, 99, 118] = 4 by decide), if_pos (show sk [114, 101, 99, 118] = 5 by decide)]
    rw [Pp.bind_some (show name (cw a :: cw b :: m) = _ from name_at ha _), Pp.bind_some (name_at hb _)]
    rfl
  | print e x p q hx =>
    intro pl f m _ hm
    have ec : cores (.mk 6 e0 e0 0 x [] [] p q) ++ m = cw [112, 114, 105, 110, 116] :: (C x 1 ++ m) := by rw [cores]; unfold lcores; simp
    refine ⟨.mk 6 e0 e0 0 x [] [] (pl (cores (.mk 6 e0 e0 0 x [] [] p q) ++ m).length).1 (pl (cores (.mk 6 e0 e0 0 x [] [] p q) ++ m).length).2, ?_, by rw [St.strip_eq, St.strip_eq]; rfl⟩
    rw [ec]
    rw [stmt_kw _ _ (show sk [112, 114, 105, 110, 116] ≠ 1 by decide)]
    unfold behind
    rw [if_neg (show ¬ sk [112, 114, 105, 110, 116] = 4 by decide), if_neg (show ¬ sk [112, 114, 105, 110, 116] = 5 by decide), if_pos (show sk [112, 114, 105, 110, 116] = 6 by decide)]
    rw [Pp.bind_some (show Px.read ((C x 1 ++ m)) = _ from read_at hx hm.ok)]
    rfl
  | cond e x b c p q hx hb hc ib ic =>
    intro pl f m hf hm
    cases f with
    | zero => omega
    | succ f =>
      have hf' : e ≤ f := by omega
      have hh : ∀ z, sk [105, 102] = z ↔ 7 = z := by intro z; exact Iff.rfl
      cases c with
      | nil =>
        have ec : cores (.mk 7 e0 e0 0 x b [] p q) ++ m = cw [105, 102] :: (C x 1 ++ co :: (coress b ++ cs :: m)) := by rw [cores]; unfold lcores; simp [csome]
        obtain ⟨b', e1, e2⟩ := block_reads pl f hf' m b fun s hs => ⟨hb s hs, ib s hs⟩
        refine ⟨.mk 7 e0 e0 0 x b' [] (pl (cores (.mk 7 e0 e0 0 x b [] p q) ++ m).length).1 (pl (cores (.mk 7 e0 e0 0 x b [] p q) ++ m).length).2, ?_, by rw [St.strip_eq, St.strip_eq]; simp only [St.kind, St.name, St.other, St.n, St.e, St.body, St.els, e2]⟩
        rw [ec]
        rw [stmt_kw _ _ (show sk [105, 102] ≠ 1 by decide)]
        unfold behind
        rw [if_neg (show ¬ sk [105, 102] = 4 by decide), if_neg (show ¬ sk [105, 102] = 5 by decide), if_neg (show ¬ sk [105, 102] = 6 by decide), if_pos (show sk [105, 102] = 7 by decide)]
        rw [Pp.bind_some (show Px.read ((C x 1 ++ co :: (coress b ++ cs :: m))) = _ from read_at hx (ok_brace 123 (.inl rfl) _)), Pp.bind_some e1]
        rw [Pp.bind_some (show other (block pl (f + 1)) m = (some [], m) by unfold other; rw [if_neg hm.ne])]
        rfl
      | cons s0 c =>
        have ec : cores (.mk 7 e0 e0 0 x b (s0 :: c) p q) ++ m = cw [105, 102] :: (C x 1 ++ co :: (coress b ++ cs :: (cw tElse :: co :: (coress (s0 :: c) ++ cs :: m)))) := by rw [cores]; unfold lcores; simp [csome]
        obtain ⟨b', e1, e2⟩ := block_reads pl f hf' (cw tElse :: co :: (coress (s0 :: c) ++ cs :: m)) b fun s hs => ⟨hb s hs, ib s hs⟩
        obtain ⟨c', e3, e4⟩ := block_reads pl f hf' m (s0 :: c) fun s hs => ⟨hc s hs, ic s hs⟩
        refine ⟨.mk 7 e0 e0 0 x b' c' (pl (cores (.mk 7 e0 e0 0 x b (s0 :: c) p q) ++ m).length).1 (pl (cores (.mk 7 e0 e0 0 x b (s0 :: c) p q) ++ m).length).2, ?_, by rw [St.strip_eq, St.strip_eq]; simp only [St.kind, St.name, St.other, St.n, St.e, St.body, St.els, e2, e4]⟩
        rw [ec]
        rw [stmt_kw _ _ (show sk [105, 102] ≠ 1 by decide)]
        unfold behind
        rw [if_neg (show ¬ sk [105, 102] = 4 by decide), if_neg (show ¬ sk [105, 102] = 5 by decide), if_neg (show ¬ sk [105, 102] = 6 by decide), if_pos (show sk [105, 102] = 7 by decide)]
        rw [Pp.bind_some (show Px.read ((C x 1 ++ co :: (coress b ++ cs :: (cw tElse :: co :: (coress (s0 :: c) ++ cs :: m))))) = _ from read_at hx (ok_brace 123 (.inl rfl) _)), Pp.bind_some e1]
        rw [Pp.bind_some (show other (block pl (f + 1)) (cw tElse :: co :: (coress (s0 :: c) ++ cs :: m)) = (some c', m) by unfold other; rw [if_pos (show (hd (cw tElse :: co :: (coress (s0 :: c) ++ cs :: m))).2.1 = tElse from rfl)]; exact e3)]
        rfl
  | rep e n b p q hn hb ib =>
    intro pl f m hf hm
    cases f with
    | zero => omega
    | succ f =>
      have hf' : e ≤ f := by omega
      have ec : cores (.mk 8 e0 e0 n ex0 b [] p q) ++ m = cw [114, 101, 112, 101, 97, 116] :: (2, Lib.itoa n, n) :: co :: (coress b ++ cs :: m) := by rw [cores]; unfold lcores; simp
      obtain ⟨b', e1, e2⟩ := block_reads pl f hf' m b fun s hs => ⟨hb s hs, ib s hs⟩
      refine ⟨.mk 8 e0 e0 n ex0 b' [] (pl (cores (.mk 8 e0 e0 n ex0 b [] p q) ++ m).length).1 (pl (cores (.mk 8 e0 e0 n ex0 b [] p q) ++ m).length).2, ?_, by rw [St.strip_eq, St.strip_eq]; simp only [St.kind, St.name, St.other, St.n, St.e, St.body, St.els, e2]⟩
      rw [ec]
      rw [stmt_kw _ _ (show sk [114, 101, 112, 101, 97, 116] ≠ 1 by decide)]
      unfold behind
      rw [if_neg (show ¬ sk [114, 101, 112, 101, 97, 116] = 4 by decide), if_neg (show ¬ sk [114, 101, 112, 101, 97, 116] = 5 by decide), if_neg (show ¬ sk [114, 101, 112, 101, 97, 116] = 6 by decide), if_neg (show ¬ sk [114, 101, 112, 101, 97, 116] = 7 by decide), if_pos (show sk [114, 101, 112, 101, 97, 116] = 8 by decide)]
      rw [Pp.bind_some (show number 9 ((2, Lib.itoa n, n) :: co :: (coress b ++ cs :: m)) = (some n, co :: (coress b ++ cs :: m)) by unfold number; rw [if_pos ⟨rfl, hn⟩]; rfl), Pp.bind_some e1]
      rfl
theorem ttext_lex {e : Nat} (b : List St) (h : ∀ s ∈ b, Gd e s) : Lexes (ttext b) (tcores b) := by
  have h1 := texts_lex 1 b fun s hs => text_lex (h s hs) 1
  have := ((word_lex (t := tGo) (by decide)).app brace_lex brace_stop).app (h1.app (shut_lex.app feed_lex))
  simpa [ttext, tcores] using this
theorem ttexts_lex {e : Nat} : ∀ t : List (List St), (∀ b ∈ t, ∀ s ∈ b, Gd e s) → Lexes (ttexts t) (tcoress t)
  | [], _ => .nil
  | a :: l, h => by
    rw [ttexts, tcoress, List.flatMap_cons, List.flatMap_cons]
    exact (ttext_lex a (h a (List.mem_cons_self ..))).app (ttexts_lex l fun b hb => h b (List.mem_cons_of_mem _ hb))
theorem shown_lex {e : Nat} (d : List Dc) (t : List (List St)) (hd : ∀ x ∈ d, GdD x) (ht : ∀ b ∈ t, ∀ s ∈ b, Gd e s) : Lexes (shown d t) (dcoress d ++ tcoress t) := (dtexts_lex d hd).app (ttexts_lex t ht)
theorem threads_reads {e : Nat} (he : e ≤ 7) (pl : Pl) (m : List Core) : ∀ (t : List (List St)), (∀ b ∈ t, ∀ s ∈ b, Gd e s) → ∀ f acc, t.length ≤ f → (t.length < f → (hd m).2.1 ≠ tGo) → ∃ t', threads pl f acc (tcoress t ++ m) = (some (acc ++ t'), m) ∧ t'.map St.strips = t.map St.strips
  | [], _, f, acc, _, hm => by
    refine ⟨[], ?_, rfl⟩
    rw [tcoress, List.flatMap_nil, List.nil_append, List.append_nil]
    cases f with
    | zero => rfl
    | succ f => rw [threads, if_neg (hm (by simp))]
  | b :: t, H, f, acc, hf, hm => by
    cases f with
    | zero => simp at hf
    | succ f =>
      have ea : tcoress (b :: t) ++ m = cw tGo :: co :: (coress b ++ cs :: (tcoress t ++ m)) := by rw [tcoress, List.flatMap_cons, tcores]; simp [tcoress]
      obtain ⟨b', e1, e2⟩ := block_reads pl 7 he (tcoress t ++ m) b fun s hs => ⟨H b (List.mem_cons_self ..) s hs, stmt_reads (H b (List.mem_cons_self ..) s hs)⟩
      obtain ⟨t', e4, e5⟩ := threads_reads he pl m t (fun y hy => H y (List.mem_cons_of_mem _ hy)) f (acc ++ [b']) (by simpa using hf) (fun h => hm (by simpa using h))
      refine ⟨b' :: t', ?_, by rw [List.map_cons, List.map_cons, e2, e5]⟩
      rw [ea, threads, if_pos (show (hd (cw tGo :: co :: (coress b ++ cs :: (tcoress t ++ m)))).2.1 = tGo from rfl)]
      simp only [List.tail_cons]
      rw [e1]
      simp only []
      rw [e4]; simp
theorem prog_reads' {e : Nat} (he : e ≤ 7) (pl : Pl) (d : List Dc) (t : List (List St)) (hd' : ∀ x ∈ d, GdD x) (ht : ∀ b ∈ t, ∀ s ∈ b, Gd e s) (hd1 : d.length ≤ 24) (ht0 : t ≠ []) (ht1 : t.length ≤ 4) (m : List Core) (hm : (hd m).2.1 ≠ tGo) :
    ∃ d' t', prog pl (dcoress d ++ (tcoress t ++ m)) = ended d' t' m ∧ d'.map Dc.strip = d.map Dc.strip ∧ t'.map St.strips = t.map St.strips := by
  have h0 : dk (hd (tcoress t ++ m)).2.1 = 0 := by
    cases t with
    | nil => exact absurd rfl ht0
    | cons b t =>
      show dk tGo = 0
      decide
  obtain ⟨d', e1, e2⟩ := decls_reads pl (tcoress t ++ m) h0 d hd' 24 [] hd1
  obtain ⟨t', e3, e4⟩ := threads_reads he pl m t ht 4 [] ht1 (fun _ => hm)
  refine ⟨d', t', ?_, e2, e4⟩
  unfold prog
  rw [Pp.bind_some e1, Pp.bind_some e3]
  rfl
theorem out_cr {e : Nat} (he : e ≤ 7) {s : List UInt8} (hl : s.length ≤ 6000) (d : List Dc) (t : List (List St)) (hd' : ∀ x ∈ d, GdD x) (ht : ∀ b ∈ t, ∀ s ∈ b, Gd e s) (hd1 : d.length ≤ 24) (ht0 : t ≠ []) (ht1 : t.length ≤ 4) (hc : Lx.cr s = some (dcoress d ++ (tcoress t ++ [(4, [], 0)]))) :
    ∃ d' t' q, Pp.out (ba s) = (some (d', t'), q) ∧ d'.map Dc.strip = d.map Dc.strip ∧ t'.map St.strips = t.map St.strips := by
  obtain ⟨ts, h1, h2⟩ := Px.cr_toks hl hc
  obtain ⟨d', t', e1, e2, e3⟩ := prog_reads' he (plOf (ba s) ts) d t hd' ht hd1 ht0 ht1 [(4, [], 0)] (by decide)
  have e4 : ended d' t' [(4, [], 0)] = (some (d', t'), [(4, [], 0)]) := if_pos ⟨ne_of_map e3 ht0, rfl⟩
  exact ⟨d', t', _, Pp.out_good (s := ba s) h1 (by rw [h2, e1, e4]), e2, e3⟩
theorem cr_shown {e : Nat} (d : List Dc) (t : List (List St)) (hd' : ∀ x ∈ d, GdD x) (ht : ∀ b ∈ t, ∀ s ∈ b, Gd e s) : Lx.cr (shown d t) = some (dcoress d ++ (tcoress t ++ [(4, [], 0)])) := by
  have := shown_lex d t hd' ht []
  rw [List.append_nil, Lx.cr_nil] at this
  rw [this]; simp
theorem out_shown {e : Nat} (he : e ≤ 7) (d : List Dc) (t : List (List St)) (hl : (shown d t).length ≤ 6000) (hd' : ∀ x ∈ d, GdD x) (ht : ∀ b ∈ t, ∀ s ∈ b, Gd e s) (hd1 : d.length ≤ 24) (ht0 : t ≠ []) (ht1 : t.length ≤ 4) :
    ∃ d' t' q, Pp.out (ba (shown d t)) = (some (d', t'), q) ∧ d'.map Dc.strip = d.map Dc.strip ∧ t'.map St.strips = t.map St.strips := out_cr he hl d t hd' ht hd1 ht0 ht1 (cr_shown d t hd' ht)
theorem of_gd {e : Nat} {s : St} (h : Ps.Gd e s) : Gd e s := by
  induction h with
  | assign e a x p q ha hx => exact .assign _ a x p q ha ⟨hx.wf, hx.deep⟩
  | word e k a p q hk ha => exact .word _ k a p q hk ha
  | send e a x p q ha hx => exact .send _ a x p q ha ⟨hx.wf, hx.deep⟩
  | recv e a b p q ha hb => exact .recv _ a b p q ha hb
  | print e x p q hx => exact .print _ x p q ⟨hx.wf, hx.deep⟩
  | cond e x b c p q hx _ _ ib ic => exact .cond _ x b c p q ⟨hx.wf, hx.deep⟩ ib ic
  | rep e n b p q hn _ ib => exact .rep _ n b p q hn ib
end Ps.Pu
end Go.Proofs.YtkobdephobaopaaGreatDoor

namespace Go.Proofs.YtkobdephobaopaaGreatDoor
open Go.RowKit

/-! ### What is alike differs by no more than the places -/
theorem tl_eq {s s' : ByteArray} (h : (s.toList == s'.toList) = true) : s = s' := by
  have h3' : s.toList = s'.toList := by simpa using h
  rw [ByteArray.toList_eq, ByteArray.toList_eq] at h3'
  cases s; cases s'
  simp only [ByteArray.mk.injEq]
  exact Array.toList_inj.1 h3'
theorem St.strips_same_of : ∀ l : List St, (∀ x ∈ l, ∀ y, St.same x y = true → x.strip = y.strip) → ∀ m, St.sames l m = true → St.strips l = St.strips m
  | [], _, [], _ => rfl
  | [], _, _ :: _, h => by rw [St.sames] at h; cases h
  | _ :: _, _, [], h => by rw [St.sames] at h; cases h
  | a :: l, H, b :: m, h => by
    rw [St.sames, Bool.and_eq_true] at h
    rw [St.strips, St.strips, H a (List.mem_cons_self ..) b h.1, St.strips_same_of l (fun x hx => H x (List.mem_cons_of_mem _ hx)) m h.2]
theorem St.strip_same : ∀ a b : St, St.same a b = true → a.strip = b.strip := by
  refine St.ind fun a hb hl => ?_
  intro b h
  rw [St.same_eq] at h
  simp only [Bool.and_eq_true] at h
  obtain ⟨h1, h2, h3, h4, h5, h6, h7⟩ := h
  have k1 : a.kind = b.kind := by simpa using h1
  have k4 : a.n = b.n := by simpa using h4
  rw [St.strip_eq, St.strip_eq, k1, tl_eq h2, tl_eq h3, k4, Ex.same_iff _ _ h5, St.strips_same_of _ hb _ h6, St.strips_same_of _ hl _ h7]
theorem St.strips_same (l m : List St) (h : St.sames l m = true) : St.strips l = St.strips m := St.strips_same_of l (fun x _ => St.strip_same x) m h
theorem Dc.strip_same {a b : Dc} (h : a.same b = true) : a.strip = b.strip := by
  unfold Dc.same at h
  simp only [Bool.and_eq_true] at h
  obtain ⟨h1, h2, h3⟩ := h
  have k1 : a.kind = b.kind := by simpa using h1
  have k3 : a.n = b.n := by simpa using h3
  unfold Dc.strip
  rw [k1, tl_eq h2, k3]
theorem Dc.strips_same : ∀ l m : List Dc, Dc.sames l m = true → l.map Dc.strip = m.map Dc.strip
  | [], [], _ => rfl
  | [], _ :: _, h => by rw [Dc.sames] at h; cases h
  | _ :: _, [], h => by rw [Dc.sames] at h; cases h
  | a :: l, b :: m, h => by
    rw [Dc.sames, Bool.and_eq_true] at h
    rw [List.map_cons, List.map_cons, Dc.strip_same h.1, Dc.strips_same l m h.2]
theorem strips_sameTs : ∀ l m : List (List St), sameTs l m = true → l.map St.strips = m.map St.strips
  | [], [], _ => rfl
  | [], _ :: _, h => by rw [sameTs] at h; cases h
  | _ :: _, [], h => by rw [sameTs] at h; cases h
  | a :: l, b :: m, h => by
    rw [sameTs, Bool.and_eq_true] at h
    rw [List.map_cons, List.map_cons, St.strips_same a b h.1, strips_sameTs l m h.2]

namespace Ps.Pu
open Lx (Core)
open Px (hd isNm ba e0 T C D Wf TokOk cost)
open Pp
open Ps

/-! ### Places do not count -/
theorem strips_nil {l : List St} (h : St.strips l = []) : l = [] := by
  cases l with
  | nil => rfl
  | cons a l => rw [St.strips] at h; cases h
theorem strips_mem : ∀ {l m : List St}, St.strips l = St.strips m → ∀ y ∈ m, ∃ x ∈ l, x.strip = y.strip
  | [], [], _, y, hy => by cases hy
  | [], b :: m, h, y, hy => by rw [St.strips, St.strips] at h; cases h
  | a :: l, [], h, y, hy => by cases hy
  | a :: l, b :: m, h, y, hy => by
    rw [St.strips, St.strips] at h
    injection h with h1 h2
    rcases List.mem_cons.1 hy with rfl | hy
    · exact ⟨a, List.mem_cons_self .., h1⟩
    · obtain ⟨x, hx, e⟩ := strips_mem h2 y hy
      exact ⟨x, List.mem_cons_of_mem _ hx, e⟩
theorem Gd.strip {e : Nat} {s : St} (h : Gd e s) : ∀ {s' : St}, s.strip = s'.strip → Gd e s' := by
  induction h with
  | assign e a x p q ha hx =>
    intro s' hs
    cases s' with
    | mk k s o n x' b c p' q' =>
      rw [St.strip_eq, St.strip_eq] at hs
      simp only [St.mk.injEq, St.kind, St.name, St.other, St.n, St.e, St.body, St.els, St.strips] at hs
      obtain ⟨rfl, rfl, rfl, rfl, rfl, hb, hc, -⟩ := hs
      obtain rfl := strips_nil hb.symm
      obtain rfl := strips_nil hc.symm
      exact .assign _ a x p' q' ha hx
  | word e kk a p q hk ha =>
    intro s' hs
    cases s' with
    | mk k s o n x' b c p' q' =>
      rw [St.strip_eq, St.strip_eq] at hs
      simp only [St.mk.injEq, St.kind, St.name, St.other, St.n, St.e, St.body, St.els, St.strips] at hs
      obtain ⟨rfl, rfl, rfl, rfl, rfl, hb, hc, -⟩ := hs
      obtain rfl := strips_nil hb.symm
      obtain rfl := strips_nil hc.symm
      exact .word _ _ a p' q' hk ha
  | send e a x p q ha hx =>
    intro s' hs
    cases s' with
    | mk k s o n x' b c p' q' =>
      rw [St.strip_eq, St.strip_eq] at hs
      simp only [St.mk.injEq, St.kind, St.name, St.other, St.n, St.e, St.body, St.els, St.strips] at hs
      obtain ⟨rfl, rfl, rfl, rfl, rfl, hb, hc, -⟩ := hs
      obtain rfl := strips_nil hb.symm
      obtain rfl := strips_nil hc.symm
      exact .send _ a x p' q' ha hx
  | recv e a b p q ha hb' =>
    intro s' hs
    cases s' with
    | mk k s o n x' b c p' q' =>
      rw [St.strip_eq, St.strip_eq] at hs
      simp only [St.mk.injEq, St.kind, St.name, St.other, St.n, St.e, St.body, St.els, St.strips] at hs
      obtain ⟨rfl, rfl, rfl, rfl, rfl, hb, hc, -⟩ := hs
      obtain rfl := strips_nil hb.symm
      obtain rfl := strips_nil hc.symm
      exact .recv _ a _ p' q' ha hb'
  | print e x p q hx =>
    intro s' hs
    cases s' with
    | mk k s o n x' b c p' q' =>
      rw [St.strip_eq, St.strip_eq] at hs
      simp only [St.mk.injEq, St.kind, St.name, St.other, St.n, St.e, St.body, St.els, St.strips] at hs
      obtain ⟨rfl, rfl, rfl, rfl, rfl, hb, hc, -⟩ := hs
      obtain rfl := strips_nil hb.symm
      obtain rfl := strips_nil hc.symm
      exact .print _ x p' q' hx
  | cond e x b0 c0 p q hx _ _ ib ic =>
    intro s' hs
    cases s' with
    | mk k s o n x' b c p' q' =>
      rw [St.strip_eq, St.strip_eq] at hs
      simp only [St.mk.injEq, St.kind, St.name, St.other, St.n, St.e, St.body, St.els] at hs
      obtain ⟨rfl, rfl, rfl, rfl, rfl, hb, hc, -⟩ := hs
      refine .cond _ x b c p' q' hx (fun y hy => ?_) (fun y hy => ?_)
      · obtain ⟨z, hz, ez⟩ := strips_mem hb y hy; exact ib z hz ez
      · obtain ⟨z, hz, ez⟩ := strips_mem hc y hy; exact ic z hz ez
  | rep e n0 b0 p q hn _ ib =>
    intro s' hs
    cases s' with
    | mk k s o n x' b c p' q' =>
      rw [St.strip_eq, St.strip_eq] at hs
      simp only [St.mk.injEq, St.kind, St.name, St.other, St.n, St.e, St.body, St.els, St.strips] at hs
      obtain ⟨rfl, rfl, rfl, rfl, rfl, hb, hc, -⟩ := hs
      obtain rfl := strips_nil hc.symm
      refine .rep _ n0 b p' q' hn (fun y hy => ?_)
      obtain ⟨z, hz, ez⟩ := strips_mem hb y hy; exact ib z hz ez
theorem GdD.strip {d d' : Dc} (h : GdD d) (hs : d.strip = d'.strip) : GdD d' := by
  cases d' with
  | mk k s n p' q' =>
    cases h with
    | plain k a p q h1 h5 ha =>
      simp only [Dc.strip, Dc.mk.injEq] at hs
      obtain ⟨rfl, rfl, rfl, -⟩ := hs
      exact .plain k a p' q' h1 h5 ha
    | chan n a p q hn ha =>
      simp only [Dc.strip, Dc.mk.injEq] at hs
      obtain ⟨rfl, rfl, rfl, -⟩ := hs
      exact .chan n a p' q' hn ha

/-- A program that a text can say. -/
structure Fine (d : List Dc) (t : List (List St)) : Prop where
  ds : ∀ x ∈ d, GdD x
  ts : ∀ b ∈ t, ∀ s ∈ b, Gd 7 s
  d1 : d.length ≤ 24
  t0 : t ≠ []
  t1 : t.length ≤ 4
theorem map_mem {α β : Type} {f : α → β} : ∀ {l m : List α}, l.map f = m.map f → ∀ y ∈ m, ∃ x ∈ l, f x = f y := by
  intro l m h y hy
  have : f y ∈ l.map f := by rw [h]; exact List.mem_map_of_mem hy
  obtain ⟨x, hx, e⟩ := List.mem_map.1 this
  exact ⟨x, hx, e⟩
theorem Fine.strip {d d' : List Dc} {t t' : List (List St)} (h : Fine d t) (hd : d.map Dc.strip = d'.map Dc.strip) (ht : t.map St.strips = t'.map St.strips) : Fine d' t' := by
  refine ⟨fun x hx => ?_, fun b hb s hs => ?_, ?_, ?_, ?_⟩
  · obtain ⟨y, hy, e⟩ := map_mem hd x hx; exact GdD.strip (h.ds y hy) e
  · obtain ⟨y, hy, e⟩ := map_mem ht b hb
    obtain ⟨z, hz, ez⟩ := strips_mem e s hs
    exact (h.ts y hy z hz).strip ez
  · rw [← len_of_map hd]; exact h.d1
  · exact ne_of_map ht.symm h.t0
  · rw [← len_of_map ht]; exact h.t1
theorem Fine.same {d d' : List Dc} {t t' : List (List St)} (h : Fine d t) (hd : Dc.sames d d' = true) (ht : sameTs t t' = true) : Fine d' t' := h.strip (Dc.strips_same _ _ hd) (strips_sameTs _ _ ht)

/-! ### What was read can be said -/
/-- All expressions in it are at most so long, and so big. -/
inductive Sh (K : Nat) : St → Prop
  | mk (s : St) (ht : (T s.e 1).length ≤ K) (hz : s.e.size ≤ K) (hb : ∀ x ∈ s.body, Sh K x) (hc : ∀ x ∈ s.els, Sh K x) : Sh K s
theorem Sh.leaf {K : Nat} {k n : Int} {s o : ByteArray} {e : Ex} {p q : Nat} (ht : (T e 1).length ≤ K) (hz : e.size ≤ K) : Sh K (.mk k s o n e [] [] p q) := .mk _ ht hz (fun _ h => by cases h) (fun _ h => by cases h)
theorem t_ex0 (l : Nat) : (T ex0 l).length ≤ 2 := by
  unfold T ex0
  rw [show Px.tb (.mk 0 0 ⟨#[]⟩ []) = [] by rw [Px.tb.eq_def]; simp]
  unfold Px.tpw; split <;> simp
theorem z_ex0 : ex0.size = 1 := by unfold ex0; rw [Ex.size_eq]; simp [Ex.of, Ex.sizes]
/-- What a parser of so many tokens yields. -/
def Yl {α : Type} (K : Nat) (p : R α) (P : α → Prop) (sz : α → Nat) : Prop := ∀ l x m, (∀ t ∈ l, TokOk t) → cost l ≤ K → l.length ≤ K → p l = (some x, m) → P x ∧ (∀ t ∈ m, TokOk t) ∧ cost m ≤ K ∧ sz x + m.length ≤ l.length
theorem bind_inv {α β : Type} {p : R α} {f : α → R β} {l m : List Lx.Core} {x : β} (h : Pp.bind p f l = (some x, m)) : ∃ y m1, p l = (some y, m1) ∧ f y m1 = (some x, m) := by
  unfold Pp.bind at h
  cases hp : p l with
  | mk o m1 =>
    rw [hp] at h
    cases o with
    | none => simp at h
    | some y => exact ⟨y, m1, rfl, h⟩
theorem ret_inv {α : Type} {x y : α} {l m : List Lx.Core} (h : Pp.ret x l = (some y, m)) : x = y ∧ l = m := by
  unfold Pp.ret at h
  simp only [Prod.mk.injEq, Option.some.injEq] at h
  exact h
theorem tail_cost {K : Nat} {l : List Core} (h : cost l ≤ K) : cost l.tail ≤ K := by
  cases l with
  | nil => exact h
  | cons a l => rw [Px.cost_cons] at h; show cost l ≤ K; omega
theorem tail_len {l : List Core} (h : l ≠ []) : 1 + l.tail.length ≤ l.length := by
  cases l with
  | nil => exact absurd rfl h
  | cons a l => simp; omega
theorem hd_ne {l : List Core} (h : (hd l).2.1 ≠ []) : l ≠ [] := by rintro rfl; exact h rfl
theorem name_yl (K : Nat) : ∀ (l : List Core) (x : List UInt8) (m : List Core), (∀ t ∈ l, TokOk t) → cost l ≤ K → l.length ≤ K → Pp.name l = (some x, m) → (isNm x = true) ∧ (∀ t ∈ m, TokOk t) ∧ cost m ≤ K ∧ 1 + m.length ≤ l.length := by
  intro l x m ho hc hl h
  unfold Pp.name at h
  split at h
  · rename_i hn
    simp only [Prod.mk.injEq, Option.some.injEq] at h
    obtain ⟨rfl, rfl⟩ := h
    exact ⟨hn, Px.tail_ok ho, tail_cost hc, tail_len (hd_ne (Pp.isNm_ne hn))⟩
  · simp at h
theorem skip_yl (K : Nat) {t : List UInt8} (ht : t ≠ []) : ∀ (l : List Core) (x : Unit) (m : List Core), (∀ t ∈ l, TokOk t) → cost l ≤ K → l.length ≤ K → Pp.skip t l = (some x, m) → (True) ∧ (∀ t ∈ m, TokOk t) ∧ cost m ≤ K ∧ 1 + m.length ≤ l.length := by
  intro l x m ho hc hl h
  unfold Pp.skip at h
  split at h
  · rename_i hn
    simp only [Prod.mk.injEq] at h
    obtain ⟨-, rfl⟩ := h
    exact ⟨trivial, Px.tail_ok ho, tail_cost hc, tail_len (hd_ne (by rw [hn]; exact ht))⟩
  · simp at h
theorem number_yl (K most : Nat) : ∀ (l : List Core) (x : Nat) (m : List Core), (∀ t ∈ l, TokOk t) → cost l ≤ K → l.length ≤ K → Pp.number most l = (some x, m) → (x ≤ most) ∧ (∀ t ∈ m, TokOk t) ∧ cost m ≤ K ∧ 1 + m.length ≤ l.length := by
  intro l x m ho hc hl h
  unfold Pp.number at h
  split at h
  · rename_i hn
    simp only [Prod.mk.injEq, Option.some.injEq] at h
    obtain ⟨rfl, rfl⟩ := h
    exact ⟨hn.2, Px.tail_ok ho, tail_cost hc, tail_len (by rintro rfl; exact absurd hn.1 (by decide))⟩
  · simp at h
theorem read_yl (K : Nat) : ∀ (l : List Core) (x : Ex) (m : List Core), (∀ t ∈ l, TokOk t) → cost l ≤ K → l.length ≤ K → Px.read l = (some x, m) → (GE x ∧ (T x 1).length ≤ K ∧ x.size ≤ K) ∧ (∀ t ∈ m, TokOk t) ∧ cost m ≤ K ∧ 1 + m.length ≤ l.length := by
  intro l x m ho hc hl h
  obtain ⟨h1, h2, h3, h4, h5⟩ := Px.expr_yields (Px.fac_yields 8) _ _ _ ho h
  have := Ex.size_pos x
  exact ⟨⟨⟨h1, h2⟩, by omega, by omega⟩, h5, by omega, by omega⟩
/-- A parser of blocks of such statements. -/
abbrev Bl (K e : Nat) (blk : R (List St)) : Prop := Yl K blk (fun b => ∃ e', e = e' + 1 ∧ ∀ s ∈ b, Gd e' s ∧ Sh K s) St.sizes
theorem other_yl {K e : Nat} {blk : R (List St)} (h : Bl K (e + 1) blk) : Yl K (Pp.other blk) (fun b => ∀ s ∈ b, Gd e s ∧ Sh K s) St.sizes := by
  intro l x m ho hc hl hx
  unfold Pp.other at hx
  split at hx
  · rename_i hn
    have hne : l ≠ [] := hd_ne (by rw [hn]; decide)
    have := tail_len hne
    obtain ⟨⟨e', he, h1⟩, h2, h3, h4⟩ := h _ _ _ (Px.tail_ok ho) (tail_cost hc) (by omega) hx
    obtain rfl : e = e' := by omega
    exact ⟨h1, h2, h3, by omega⟩
  · simp only [Prod.mk.injEq, Option.some.injEq] at hx
    obtain ⟨rfl, rfl⟩ := hx
    refine ⟨?_, ho, hc, by simp [St.sizes]⟩
    intro s hs; cases hs
theorem sk_cases {t : List UInt8} (h4 : sk t ≠ 4) (h5 : sk t ≠ 5) (h6 : sk t ≠ 6) (h7 : sk t ≠ 7) (h8 : sk t ≠ 8) (h1 : sk t ≠ 1) : sk t = 2 ∨ sk t = 3 ∨ sk t = 9 ∨ sk t = 10 := by
  have : sk t = 1 ∨ sk t = 2 ∨ sk t = 3 ∨ sk t = 4 ∨ sk t = 5 ∨ sk t = 6 ∨ sk t = 7 ∨ sk t = 8 ∨ sk t = 9 ∨ sk t = 10 := by
    unfold sk
    repeat' split
    all_goals simp
  omega
theorem stmt_yl {K e : Nat} (_hK : 2 ≤ K) {pl : Pl} {blk : R (List St)} (hb : Bl K e blk) : Yl K (Pp.stmt pl blk) (fun s => Gd e s ∧ Sh K s) St.size := by
  intro l x m ho hc hl h
  have one : ∀ {k n : Int} {s o : ByteArray} {x : Ex} {p q : Nat}, (St.mk k s o n x [] [] p q).size = 1 := by intros; rw [St.size_eq]; simp [St.body, St.els, St.sizes]
  unfold Pp.stmt at h
  split at h
  · unfold Pp.assign at h
    obtain ⟨a, m1, ha, h⟩ := bind_inv h
    obtain ⟨ha1, o1, c1, l1⟩ := name_yl K _ _ _ ho hc hl ha
    obtain ⟨u, m2, hu, h⟩ := bind_inv h
    obtain ⟨-, o2, c2, l2⟩ := skip_yl K (by decide) _ _ _ o1 c1 (by omega) hu
    obtain ⟨y, m3, ha, h⟩ := bind_inv h
    obtain ⟨⟨g, gt, gz⟩, o3, c3, l3⟩ := read_yl K _ _ _ o2 c2 (by omega) ha
    obtain ⟨rfl, rfl⟩ := ret_inv h
    exact ⟨⟨.assign _ a y _ _ ha1 g, .leaf gt gz⟩, o3, c3, by rw [one]; omega⟩
  · rename_i hn
    have hne : l ≠ [] := hd_ne (Pp.sk_ne hn)
    have hl0 := tail_len hne
    have o0 := Px.tail_ok ho
    have c0 := tail_cost hc
    generalize l.tail = l' at h hl0 o0 c0
    unfold Pp.behind at h
    split at h
    · obtain ⟨a, m1, ha, h⟩ := bind_inv h
      obtain ⟨ha1, o1, c1, l1⟩ := name_yl K _ _ _ o0 c0 (by omega) ha
      obtain ⟨y, m3, ha, h⟩ := bind_inv h
      obtain ⟨⟨g, gt, gz⟩, o3, c3, l3⟩ := read_yl K _ _ _ o1 c1 (by omega) ha
      obtain ⟨rfl, rfl⟩ := ret_inv h
      exact ⟨⟨.send _ a y _ _ ha1 g, .leaf gt gz⟩, o3, c3, by rw [one]; omega⟩
    · rename_i n4
      split at h
      · obtain ⟨a, m1, ha, h⟩ := bind_inv h
        obtain ⟨ha1, o1, c1, l1⟩ := name_yl K _ _ _ o0 c0 (by omega) ha
        obtain ⟨b, m3, hb', h⟩ := bind_inv h
        obtain ⟨hb1, o3, c3, l3⟩ := name_yl K _ _ _ o1 c1 (by omega) hb'
        obtain ⟨rfl, rfl⟩ := ret_inv h
        have := t_ex0 1
        have hz := z_ex0
        exact ⟨⟨.recv _ a b _ _ ha1 hb1, .leaf (by omega) (by omega)⟩, o3, c3, by rw [one]; omega⟩
      · rename_i n5
        split at h
        · obtain ⟨y, m3, ha, h⟩ := bind_inv h
          obtain ⟨⟨g, gt, gz⟩, o3, c3, l3⟩ := read_yl K _ _ _ o0 c0 (by omega) ha
          obtain ⟨rfl, rfl⟩ := ret_inv h
          exact ⟨⟨.print _ y _ _ g, .leaf gt gz⟩, o3, c3, by rw [one]; omega⟩
        · rename_i n6
          split at h
          · obtain ⟨y, m1, ha, h⟩ := bind_inv h
            obtain ⟨⟨g, gt, gz⟩, o1, c1, l1⟩ := read_yl K _ _ _ o0 c0 (by omega) ha
            obtain ⟨b, m2, hb', h⟩ := bind_inv h
            obtain ⟨⟨e', rfl, g2⟩, o2, c2, l2⟩ := hb _ _ _ o1 c1 (by omega) hb'
            obtain ⟨c, m3, hc', h⟩ := bind_inv h
            obtain ⟨g3, o3, c3, l3⟩ := other_yl hb _ _ _ o2 c2 (by omega) hc'
            obtain ⟨rfl, rfl⟩ := ret_inv h
            refine ⟨⟨.cond _ y b c _ _ g (fun s hs => (g2 s hs).1) (fun s hs => (g3 s hs).1), .mk _ gt gz (fun s hs => (g2 s hs).2) (fun s hs => (g3 s hs).2)⟩, o3, c3, ?_⟩
            rw [St.size_eq]; simp only [St.body, St.els]; omega
          · rename_i n7
            split at h
            · obtain ⟨n, m1, ha, h⟩ := bind_inv h
              obtain ⟨g, o1, c1, l1⟩ := number_yl K 9 _ _ _ o0 c0 (by omega) ha
              obtain ⟨b, m2, hb', h⟩ := bind_inv h
              obtain ⟨⟨e', rfl, g2⟩, o2, c2, l2⟩ := hb _ _ _ o1 c1 (by omega) hb'
              obtain ⟨rfl, rfl⟩ := ret_inv h
              have := t_ex0 1
              have hz := z_ex0
              refine ⟨⟨.rep _ n b _ _ g (fun s hs => (g2 s hs).1), .mk _ (by show (T ex0 1).length ≤ K; omega) (by show ex0.size ≤ K; omega) (fun s hs => (g2 s hs).2) (fun s hs => by cases hs)⟩, o2, c2, ?_⟩
              rw [St.size_eq]; simp only [St.body, St.els, St.sizes]; omega
            · rename_i n8
              obtain ⟨a, m1, ha, h⟩ := bind_inv h
              obtain ⟨ha1, o1, c1, l1⟩ := name_yl K _ _ _ o0 c0 (by omega) ha
              obtain ⟨rfl, rfl⟩ := ret_inv h
              have := t_ex0 1
              have hz := z_ex0
              refine ⟨⟨.word _ _ a _ _ ?_ ha1, .leaf (by omega) (by omega)⟩, o1, c1, by rw [one]; omega⟩
              have := sk_cases n4 n5 n6 n7 n8 hn
              omega
theorem stmts_yl {K e : Nat} {sp : R St} (hs : Yl K sp (fun s => Gd e s ∧ Sh K s) St.size) : ∀ f acc l b m, (∀ t ∈ l, TokOk t) → cost l ≤ K → l.length ≤ K → (∀ y ∈ acc, Gd e y ∧ Sh K y) → Pp.stmts sp f acc l = (some b, m) →
    (∀ s ∈ b, Gd e s ∧ Sh K s) ∧ (∀ t ∈ m, TokOk t) ∧ cost m ≤ K ∧ St.sizes b + m.length ≤ St.sizes acc + l.length
  | 0, _, _, _, _, _, _, _, _, h => by rw [Pp.stmts] at h; cases h
  | f + 1, acc, l, b, m, ho, hc, hl, ha, h => by
    rw [Pp.stmts] at h
    split at h
    · rename_i hn
      simp only [Prod.mk.injEq, Option.some.injEq] at h
      obtain ⟨rfl, rfl⟩ := h
      have := tail_len (hd_ne (l := l) (by rw [hn]; decide))
      exact ⟨ha, Px.tail_ok ho, tail_cost hc, by omega⟩
    · cases hp : sp l with
      | mk o m1 =>
        rw [hp] at h
        cases o with
        | none => simp at h
        | some x =>
          obtain ⟨g, o1, c1, l1⟩ := hs _ _ _ ho hc hl hp
          obtain ⟨g1, g2, g3, g4⟩ := stmts_yl hs f (acc ++ [x]) m1 b m o1 c1 (by omega) (fun y hy => by
            rcases List.mem_append.1 hy with hy | hy
            · exact ha y hy
            · rw [List.mem_singleton.1 hy]; exact g) h
          rw [St.sizes_append] at g4
          simp only [St.sizes] at g4
          exact ⟨g1, g2, g3, by omega⟩
theorem block_yl {K : Nat} (hK : 2 ≤ K) {pl : Pl} : ∀ e, Bl K e (Pp.block pl e)
  | 0 => fun l b m ho hc hl h => by rw [Pp.block] at h; cases h
  | e + 1 => fun l b m ho hc hl h => by
    rw [Pp.block] at h
    split at h
    · rename_i hn
      have h1 := tail_len (hd_ne (l := l) (by rw [hn]; decide))
      obtain ⟨g1, g2, g3, g4⟩ := stmts_yl (stmt_yl hK (block_yl hK e)) _ _ _ _ _ (Px.tail_ok ho) (tail_cost hc) (by omega) (fun y hy => by cases hy) h
      simp only [St.sizes] at g4
      exact ⟨⟨e, rfl, g1⟩, g2, g3, by omega⟩
    · cases h
theorem dk_le (t : List UInt8) : dk t ≤ 6 := by unfold dk; repeat' split
                                                all_goals omega
theorem decl_yl {K : Nat} {pl : Pl} {l m : List Core} {x : Dc} (ho : ∀ t ∈ l, TokOk t) (hc : cost l ≤ K) (hl : l.length ≤ K) (hn : dk (hd l).2.1 ≠ 0) (h : Pp.decl pl l = (some x, m)) : GdD x ∧ (∀ t ∈ m, TokOk t) ∧ cost m ≤ K ∧ 1 + m.length ≤ l.length := by
  have hl0 := tail_len (hd_ne (Pp.dk_ne hn))
  have o0 := Px.tail_ok ho
  have c0 := tail_cost hc
  unfold Pp.decl at h
  split at h
  · obtain ⟨a, m1, ha, h⟩ := bind_inv h
    obtain ⟨ha1, o1, c1, l1⟩ := name_yl K _ _ _ o0 c0 (by omega) ha
    obtain ⟨n, m3, hb', h⟩ := bind_inv h
    obtain ⟨hb1, o3, c3, l3⟩ := number_yl K 3 _ _ _ o1 c1 (by omega) hb'
    obtain ⟨rfl, rfl⟩ := ret_inv h
    exact ⟨.chan n a _ _ hb1 ha1, o3, c3, by omega⟩
  · rename_i n6
    obtain ⟨a, m1, ha, h⟩ := bind_inv h
    obtain ⟨ha1, o1, c1, l1⟩ := name_yl K _ _ _ o0 c0 (by omega) ha
    obtain ⟨rfl, rfl⟩ := ret_inv h
    have := dk_le (hd l).2.1
    exact ⟨.plain _ a _ _ (by omega) (by omega) ha1, o1, c1, by omega⟩
theorem decls_yl {K : Nat} {pl : Pl} : ∀ f acc l t m, (∀ x ∈ l, TokOk x) → cost l ≤ K → l.length ≤ K → (∀ b ∈ acc, GdD b) → Pp.decls pl f acc l = (some t, m) → (∀ b ∈ t, GdD b) ∧ t.length ≤ acc.length + f ∧ (∀ x ∈ m, TokOk x) ∧ cost m ≤ K ∧ m.length ≤ l.length
  | 0, acc, l, t, m, ho, hc, hl, ha, h => by
    rw [Pp.decls] at h
    simp only [Prod.mk.injEq, Option.some.injEq] at h
    obtain ⟨rfl, rfl⟩ := h
    exact ⟨ha, by omega, ho, hc, Nat.le_refl _⟩
  | f + 1, acc, l, t, m, ho, hc, hl, ha, h => by
    rw [Pp.decls] at h
    split at h
    · simp only [Prod.mk.injEq, Option.some.injEq] at h
      obtain ⟨rfl, rfl⟩ := h
      exact ⟨ha, by omega, ho, hc, Nat.le_refl _⟩
    · rename_i hn
      cases hp : Pp.decl pl l with
      | mk o m1 =>
        rw [hp] at h
        cases o with
        | none => simp at h
        | some x =>
          obtain ⟨g, o1, c1, l1⟩ := decl_yl ho hc hl hn hp
          obtain ⟨g1, g2, g3, g4, g5⟩ := decls_yl f (acc ++ [x]) m1 t m o1 c1 (by omega) (fun b hb => by
            rcases List.mem_append.1 hb with hb | hb
            · exact ha b hb
            · rw [List.mem_singleton.1 hb]; exact g) h
          rw [List.length_append, List.length_singleton] at g2
          exact ⟨g1, by omega, g3, g4, by omega⟩
theorem threads_yl {K : Nat} (hK : 2 ≤ K) {pl : Pl} : ∀ f acc l t m, (∀ x ∈ l, TokOk x) → cost l ≤ K → l.length ≤ K → (∀ b ∈ acc, (∀ s ∈ b, Gd 7 s ∧ Sh K s) ∧ St.sizes b ≤ K) → Pp.threads pl f acc l = (some t, m) → (∀ b ∈ t, (∀ s ∈ b, Gd 7 s ∧ Sh K s) ∧ St.sizes b ≤ K) ∧ t.length ≤ acc.length + f
  | 0, acc, l, t, m, ho, hc, hl, ha, h => by
    rw [Pp.threads] at h
    simp only [Prod.mk.injEq, Option.some.injEq] at h
    obtain ⟨rfl, rfl⟩ := h
    exact ⟨ha, by omega⟩
  | f + 1, acc, l, t, m, ho, hc, hl, ha, h => by
    rw [Pp.threads] at h
    split at h
    · rename_i hn
      have hl0 := tail_len (hd_ne (l := l) (by rw [hn]; decide))
      cases hp : Pp.block pl 8 l.tail with
      | mk o m1 =>
        rw [hp] at h
        cases o with
        | none => simp at h
        | some x =>
          obtain ⟨⟨e', he', g⟩, o1, c1, l1⟩ := block_yl hK 8 _ _ _ (Px.tail_ok ho) (tail_cost hc) (by omega) hp
          obtain rfl : e' = 7 := by omega
          obtain ⟨g1, g2⟩ := threads_yl hK f (acc ++ [x]) m1 t m o1 c1 (by omega) (fun b hb => by
            rcases List.mem_append.1 hb with hb | hb
            · exact ha b hb
            · rw [List.mem_singleton.1 hb]; exact ⟨g, by omega⟩) h
          rw [List.length_append, List.length_singleton] at g2
          exact ⟨g1, by omega⟩
    · simp only [Prod.mk.injEq, Option.some.injEq] at h
      obtain ⟨rfl, rfl⟩ := h
      exact ⟨ha, by omega⟩
/-- What was read of tokens that cost so much. -/
structure Said (K : Nat) (d : List Dc) (t : List (List St)) : Prop where
  fine : Fine d t
  sh : ∀ b ∈ t, ∀ s ∈ b, Sh K s
  sz : ∀ b ∈ t, St.sizes b ≤ K
theorem prog_yl {K : Nat} (hK : 2 ≤ K) {pl : Pl} {l m : List Core} {d : List Dc} {t : List (List St)} (ho : ∀ x ∈ l, TokOk x) (hc : cost l ≤ K) (hl : l.length ≤ K) (h : Pp.prog pl l = (some (d, t), m)) : Said K d t := by
  unfold Pp.prog at h
  obtain ⟨d', m1, h1, h⟩ := bind_inv h
  obtain ⟨t', m2, h2, h⟩ := bind_inv h
  unfold Pp.ended at h
  split at h
  · rename_i hn
    simp only [Prod.mk.injEq, Option.some.injEq] at h
    obtain ⟨⟨rfl, rfl⟩, -⟩ := h
    obtain ⟨g1, g2, g3, g4, g5⟩ := decls_yl _ _ _ _ _ ho hc hl (fun b hb => by cases hb) h1
    obtain ⟨k1, k2⟩ := threads_yl hK _ _ _ _ _ g3 g4 (by omega) (fun b hb => by cases hb) h2
    exact ⟨⟨g1, fun b hb s hs => ((k1 b hb).1 s hs).1, by simpa using g2, hn.1, by simpa using k2⟩, fun b hb s hs => ((k1 b hb).1 s hs).2, fun b hb => (k1 b hb).2⟩
  · cases h
end Ps.Pu
end Go.Proofs.YtkobdephobaopaaGreatDoor

namespace Go.Proofs.YtkobdephobaopaaGreatDoor
open Go.RowKit
namespace Ps.Pu
open Lx (Core)
open Px (hd isNm ba e0 T C D Wf TokOk cost)
open Pp
open Ps

/-- The words of a statement. -/
def words (k : Int) (s o : ByteArray) (n : Int) (e : Ex) : List UInt8 :=
  if k = 1 then s.data.toList ++ [32, 61, 32] ++ Px.print e
  else if k = 2 then [108, 111, 99, 107, 32] ++ s.data.toList
  else if k = 3 then [117, 110, 108, 111, 99, 107, 32] ++ s.data.toList
  else if k = 4 then [115, 101, 110, 100, 32] ++ s.data.toList ++ [32] ++ Px.print e
  else if k = 5 then [114, 101, 99, 118, 32] ++ s.data.toList ++ [32] ++ o.data.toList
  else if k = 6 then [112, 114, 105, 110, 116, 32] ++ Px.print e
  else if k = 7 then [105, 102, 32] ++ Px.print e ++ [32, 123]
  else if k = 8 then [114, 101, 112, 101, 97, 116, 32] ++ Lib.itoa n ++ [32, 123]
  else if k = 9 then [103, 111, 116, 111, 32] ++ s.data.toList
  else if k = 10 then [108, 97, 98, 101, 108, 32] ++ s.data.toList
  else []
/-- A line behind a text. -/
def ln (acc : List UInt8) (d : Nat) (y : List UInt8) : List UInt8 := acc ++ (tabs d ++ (y ++ [10]))
abbrev yElse : List UInt8 := [125, 32, 101, 108, 115, 101, 32, 123]
mutual
def wS : St → Nat → List UInt8 → List UInt8
  | .mk k s o n e b c _ _, d, acc =>
    if k = 7 ∨ k = 8 then
      ln (if c.isEmpty then wB b (d + 1) (ln acc d (words k s o n e)) else wB c (d + 1) (ln (wB b (d + 1) (ln acc d (words k s o n e))) d yElse)) d [125]
    else ln acc d (words k s o n e)
def wB : List St → Nat → List UInt8 → List UInt8
  | [], _, acc => acc
  | x :: l, d, acc => if 6000 < acc.length then acc else wB l d (wS x d acc)
end
theorem wS_eq (x : St) (d : Nat) (acc : List UInt8) : wS x d acc = if x.kind = 7 ∨ x.kind = 8 then
      ln (if x.els.isEmpty then wB x.body (d + 1) (ln acc d (words x.kind x.name x.other x.n x.e)) else wB x.els (d + 1) (ln (wB x.body (d + 1) (ln acc d (words x.kind x.name x.other x.n x.e))) d yElse)) d [125]
    else ln acc d (words x.kind x.name x.other x.n x.e) := by cases x; rw [wS]; rfl
theorem wB_nil (d : Nat) (acc : List UInt8) : wB [] d acc = acc := by rw [wB]
theorem wB_cut (l : List St) (d : Nat) (acc : List UInt8) (h : 6000 < acc.length) : wB l d acc = acc := by
  cases l with
  | nil => rw [wB]
  | cons x l => rw [wB, if_pos h]
theorem wB_cons (x : St) (l : List St) (d : Nat) (acc : List UInt8) (h : ¬ 6000 < acc.length) : wB (x :: l) d acc = wB l d (wS x d acc) := by rw [wB, if_neg h]
theorem ln_len (acc : List UInt8) (d : Nat) (y : List UInt8) : (ln acc d y).length = acc.length + d + y.length + 1 := by
  unfold ln; simp only [List.length_append, tabs_len, List.length_singleton]; omega

/-! ### How long it is -/
theorem wB_mono_of (d : Nat) : ∀ l : List St, (∀ x ∈ l, ∀ d acc, acc.length ≤ (wS x d acc).length) → ∀ acc, acc.length ≤ (wB l d acc).length
  | [], _, acc => by rw [wB]; exact Nat.le_refl _
  | x :: l, H, acc => by
    rw [wB]
    split
    · exact Nat.le_refl _
    · exact Nat.le_trans (H x (List.mem_cons_self ..) d acc) (wB_mono_of d l (fun y hy => H y (List.mem_cons_of_mem _ hy)) _)
theorem wS_mono : ∀ (x : St) (d : Nat) (acc : List UInt8), acc.length ≤ (wS x d acc).length := by
  refine St.ind fun x hb hc => ?_
  intro d acc
  rw [wS_eq]
  split
  · rw [ln_len]
    have h0 := ln_len acc d (words x.kind x.name x.other x.n x.e)
    have h1 := wB_mono_of (d + 1) x.body hb (ln acc d (words x.kind x.name x.other x.n x.e))
    split
    · omega
    · have h2 := wB_mono_of (d + 1) x.els hc (ln (wB x.body (d + 1) (ln acc d (words x.kind x.name x.other x.n x.e))) d yElse)
      rw [ln_len] at h2
      omega
  · rw [ln_len]; omega
theorem wB_mono (l : List St) (d : Nat) (acc : List UInt8) : acc.length ≤ (wB l d acc).length := wB_mono_of d l (fun x _ => wS_mono x) acc

/-- A statement that may be written: what it bears is not too long. -/
inductive Wr : St → Prop
  | mk (s : St) (hn : s.name.size ≤ 12) (ho : s.other.size ≤ 12) (h0 : -9223372036854775808 ≤ s.n) (h1 : s.n ≤ 9223372036854775807) (hf : s.e.fit) (hz : s.e.size ≤ 10000) (hb : ∀ x ∈ s.body, Wr x) (hc : ∀ x ∈ s.els, Wr x) : Wr s
theorem print_len (x : Ex) : (Px.print x).length ≤ 6000 := by
  by_cases h : Px.print x = []
  · rw [h]; simp
  · obtain ⟨-, -, h1, h2⟩ := Px.print_form h
    rw [h1]; exact h2
theorem words_len {x : St} (h : Wr x) : (words x.kind x.name x.other x.n x.e).length ≤ 6040 := by
  cases h with
  | mk _ hn ho h0 h1 hf hz hb hc =>
    have e1 : x.name.data.toList.length = x.name.size := Array.length_toList
    have e2 : x.other.data.toList.length = x.other.size := Array.length_toList
    have e3 := print_len x.e
    have e4 := Lib.itoa_length_le x.n h0 h1
    unfold words
    repeat' split
    all_goals simp only [List.length_append, List.length_cons, List.length_nil]
    all_goals omega
theorem wB_len_of {M : Nat} (d : Nat) (hd : d ≤ M) : ∀ l : List St, (∀ x ∈ l, ∀ acc, (wS x d acc).length ≤ acc.length + (3 * M + 8000) * x.size) → ∀ acc, (wB l d acc).length ≤ acc.length + (3 * M + 8000) * St.sizes l
  | [], _, acc => by rw [wB]; simp [St.sizes]
  | x :: l, H, acc => by
    rw [wB, St.sizes, Nat.mul_add]
    split
    · omega
    · have h1 := H x (List.mem_cons_self ..) acc
      have h2 := wB_len_of d hd l (fun y hy => H y (List.mem_cons_of_mem _ hy)) (wS x d acc)
      omega
theorem wS_len {M : Nat} : ∀ (x : St), Wr x → ∀ d acc, d + x.size ≤ M → (wS x d acc).length ≤ acc.length + (3 * M + 8000) * x.size := by
  refine St.ind fun x hb hc => ?_
  intro h d acc hd
  have hw := words_len h
  cases h with
  | mk _ hn ho h0 h1 hf hz gb gc =>
    rw [St.size_eq] at hd ⊢
    rw [wS_eq, Nat.mul_add, Nat.mul_add, Nat.mul_one]
    split
    · rw [ln_len]
      have k0 := ln_len acc d (words x.kind x.name x.other x.n x.e)
      have k1 := wB_len_of (M := M) (d + 1) (by omega) x.body (fun y hy acc => hb y hy (gb y hy) (d + 1) acc (by have := St.size_mem _ _ hy; omega)) (ln acc d (words x.kind x.name x.other x.n x.e))
      simp only [List.length_singleton]
      split
      · omega
      · have k2 := wB_len_of (M := M) (d + 1) (by omega) x.els (fun y hy acc => hc y hy (gc y hy) (d + 1) acc (by have := St.size_mem _ _ hy; omega)) (ln (wB x.body (d + 1) (ln acc d (words x.kind x.name x.other x.n x.e))) d yElse)
        rw [ln_len] at k2
        simp only [List.length_cons, List.length_nil] at k2
        omega
    · rw [ln_len]; omega
theorem wB_len {M : Nat} (l : List St) (h : ∀ x ∈ l, Wr x) (d : Nat) (acc : List UInt8) (hd : d + St.sizes l ≤ M) : (wB l d acc).length ≤ acc.length + (3 * M + 8000) * St.sizes l :=
  wB_len_of (M := M) d (by omega) l (fun x hx acc => wS_len x (h x hx) d acc (by have := St.size_mem _ _ hx; omega)) acc

/-! ### What is printed of what can be said is what is shown -/
theorem print_T {e : Ex} (h : GE e) (hl : (T e 1).length ≤ 6000) : Px.print e = T e 1 := (Px.written h.wf h.deep hl).2.1
theorem wB_text_of (d : Nat) : ∀ l : List St, (∀ x ∈ l, ∀ acc, wS x d acc = acc ++ text x d ∨ 6000 < (wS x d acc).length) → ∀ acc, wB l d acc = acc ++ texts l d ∨ 6000 < (wB l d acc).length
  | [], _, acc => by rw [wB, texts, List.append_nil]; exact .inl rfl
  | x :: l, H, acc => by
    rw [wB]
    split
    · rename_i h; exact .inr h
    · rcases H x (List.mem_cons_self ..) acc with e | e
      · rw [e]
        rcases wB_text_of d l (fun y hy => H y (List.mem_cons_of_mem _ hy)) (acc ++ text x d) with h | h
        · rw [h, texts, List.append_assoc]; exact .inl rfl
        · exact .inr h
      · exact .inr (Nat.lt_of_lt_of_le e (wB_mono l d _))
theorem leaf_text {k : Int} {s o : ByteArray} {n : Int} {e : Ex} {p q : Nat} (d : Nat) (acc : List UInt8) (h7 : ¬ (k = 7 ∨ k = 8)) (h : words k s o n e = line k s o n e d [] none) : wS (.mk k s o n e [] [] p q) d acc = acc ++ text (.mk k s o n e [] [] p q) d := by
  rw [wS, if_neg h7, text, texts, h]; rfl
theorem wB_le_of (d : Nat) : ∀ l : List St, (∀ x ∈ l, ∀ acc, (wS x d acc).length ≤ acc.length + (text x d).length) → ∀ acc, (wB l d acc).length ≤ acc.length + (texts l d).length
  | [], _, acc => by rw [wB, texts]; simp
  | x :: l, H, acc => by
    rw [wB, texts, List.length_append]
    split
    · omega
    · have h1 := H x (List.mem_cons_self ..) acc
      have h2 := wB_le_of d l (fun y hy => H y (List.mem_cons_of_mem _ hy)) (wS x d acc)
      omega
theorem wS_le {e : Nat} {s : St} (h : Gd e s) : Sh 6000 s → ∀ d acc, (wS s d acc).length ≤ acc.length + (text s d).length := by
  have lf : ∀ {s : St} {d : Nat} {acc : List UInt8}, wS s d acc = acc ++ text s d → (wS s d acc).length ≤ acc.length + (text s d).length := by
    intro s d acc h; rw [h, List.length_append]; exact Nat.le_refl _
  induction h with
  | assign e a x p q ha hx =>
    intro hs d acc
    cases hs with
    | mk _ ht hz hb hc =>
      refine lf (leaf_text d acc (by omega) ?_)
      unfold words line; rw [if_pos rfl, if_pos rfl, print_T hx ht]
  | word e k a p q hk ha =>
    intro hs d acc
    refine lf (leaf_text d acc (by omega) ?_)
    unfold words line kw
    rcases hk with rfl | rfl | rfl | rfl <;> simp
  | send e a x p q ha hx =>
    intro hs d acc
    cases hs with
    | mk _ ht hz hb hc =>
      refine lf (leaf_text d acc (by omega) ?_)
      unfold words line; rw [print_T hx ht]; simp
  | recv e a b p q ha hb =>
    intro hs d acc
    refine lf (leaf_text d acc (by omega) ?_)
    unfold words line; simp
  | print e x p q hx =>
    intro hs d acc
    cases hs with
    | mk _ ht hz hb hc =>
      refine lf (leaf_text d acc (by omega) ?_)
      unfold words line; rw [print_T hx ht]; simp
  | cond e x b c p q hx _ _ ib ic =>
    intro hs d acc
    cases hs with
    | mk _ ht hz hb hc =>
      have ht : (T x 1).length ≤ 6000 := ht
      rw [wS, if_pos (.inl rfl)]
      have hw : words 7 e0 e0 0 x = [105, 102, 32] ++ T x 1 ++ [32, 123] := by unfold words; rw [print_T hx ht]; simp
      rw [hw, text, ln_len]
      have h1 := wB_le_of (d + 1) b (fun y hy acc => ib y hy (hb y hy) (d + 1) acc) (ln acc d ([105, 102, 32] ++ T x 1 ++ [32, 123]))
      rw [ln_len] at h1
      simp only [List.length_append, List.length_cons, List.length_nil] at h1
      cases c with
      | nil =>
        rw [if_pos List.isEmpty_nil]
        show _ ≤ acc.length + (tabs d ++ (line 7 e0 e0 0 x d (texts b (d + 1)) none ++ [10])).length
        rw [line_if]
        simp only [List.length_append, List.length_cons, List.length_nil, tabs_len]
        omega
      | cons y c =>
        rw [if_neg (by simp)]
        have h2 := wB_le_of (d + 1) (y :: c) (fun z hz acc => ic z hz (hc z hz) (d + 1) acc) (ln (wB b (d + 1) (ln acc d ([105, 102, 32] ++ T x 1 ++ [32, 123]))) d yElse)
        rw [ln_len] at h2
        show _ ≤ acc.length + (tabs d ++ (line 7 e0 e0 0 x d (texts b (d + 1)) (some (texts (y :: c) (d + 1))) ++ [10])).length
        rw [line_ifelse]
        simp only [List.length_append, List.length_cons, List.length_nil, tabs_len] at h2 ⊢
        omega
  | rep e n b p q hn _ ib =>
    intro hs d acc
    cases hs with
    | mk _ ht hz hb hc =>
      rw [wS, if_pos (.inr rfl)]
      have hw : words 8 e0 e0 n ex0 = [114, 101, 112, 101, 97, 116, 32] ++ Lib.itoa n ++ [32, 123] := by unfold words; simp
      rw [hw, if_pos List.isEmpty_nil, text, ln_len]
      have h1 := wB_le_of (d + 1) b (fun y hy acc => ib y hy (hb y hy) (d + 1) acc) (ln acc d ([114, 101, 112, 101, 97, 116, 32] ++ Lib.itoa n ++ [32, 123]))
      rw [ln_len] at h1
      show _ ≤ acc.length + (tabs d ++ (line 8 e0 e0 n ex0 d (texts b (d + 1)) none ++ [10])).length
      rw [line_rep]
      simp only [List.length_append, List.length_cons, List.length_nil, tabs_len] at h1 ⊢
      omega
theorem wS_text {e : Nat} {s : St} (h : Gd e s) : Sh 6000 s → ∀ d acc, wS s d acc = acc ++ text s d ∨ 6000 < (wS s d acc).length := by
  induction h with
  | assign e a x p q ha hx =>
    intro hs d acc
    cases hs with
    | mk _ ht hz hb hc =>
      refine .inl (leaf_text d acc (by omega) ?_)
      unfold words line; rw [if_pos rfl, if_pos rfl, print_T hx ht]
  | word e k a p q hk ha =>
    intro hs d acc
    refine .inl (leaf_text d acc (by omega) ?_)
    unfold words line kw
    rcases hk with rfl | rfl | rfl | rfl <;> simp
  | send e a x p q ha hx =>
    intro hs d acc
    cases hs with
    | mk _ ht hz hb hc =>
      refine .inl (leaf_text d acc (by omega) ?_)
      unfold words line; rw [print_T hx ht]; simp
  | recv e a b p q ha hb =>
    intro hs d acc
    refine .inl (leaf_text d acc (by omega) ?_)
    unfold words line; simp
  | print e x p q hx =>
    intro hs d acc
    cases hs with
    | mk _ ht hz hb hc =>
      refine .inl (leaf_text d acc (by omega) ?_)
      unfold words line; rw [print_T hx ht]; simp
  | cond e x b c p q hx _ _ ib ic =>
    intro hs d acc
    cases hs with
    | mk _ ht hz hb hc =>
      have ht : (T x 1).length ≤ 6000 := ht
      rw [wS, if_pos (.inl rfl)]
      have hw : words 7 e0 e0 0 x = [105, 102, 32] ++ T x 1 ++ [32, 123] := by unfold words; rw [print_T hx ht]; simp
      rw [hw]
      rcases wB_text_of (d + 1) b (fun y hy acc => ib y hy (hb y hy) (d + 1) acc) (ln acc d ([105, 102, 32] ++ T x 1 ++ [32, 123])) with e1 | e1
      · rw [e1]
        cases c with
        | nil =>
          left
          rw [if_pos List.isEmpty_nil, text]
          show _ = acc ++ (tabs d ++ (line 7 e0 e0 0 x d (texts b (d + 1)) none ++ [10]))
          rw [line_if]; unfold ln; simp
        | cons y c =>
          rw [if_neg (by simp)]
          rcases wB_text_of (d + 1) (y :: c) (fun z hz acc => ic z hz (hc z hz) (d + 1) acc) (ln (ln acc d ([105, 102, 32] ++ T x 1 ++ [32, 123]) ++ texts b (d + 1)) d yElse) with e2 | e2
          · left
            rw [e2, text]
            show _ = acc ++ (tabs d ++ (line 7 e0 e0 0 x d (texts b (d + 1)) (some (texts (y :: c) (d + 1))) ++ [10]))
            rw [line_ifelse]; unfold ln; simp
          · right; rw [ln_len]; omega
      · right
        rw [ln_len]
        split
        · omega
        · have := wB_mono c (d + 1) (ln (wB b (d + 1) (ln acc d ([105, 102, 32] ++ T x 1 ++ [32, 123]))) d yElse)
          rw [ln_len] at this
          omega
  | rep e n b p q hn _ ib =>
    intro hs d acc
    cases hs with
    | mk _ ht hz hb hc =>
      rw [wS, if_pos (.inr rfl)]
      have hw : words 8 e0 e0 n ex0 = [114, 101, 112, 101, 97, 116, 32] ++ Lib.itoa n ++ [32, 123] := by unfold words; simp
      rw [hw, if_pos List.isEmpty_nil]
      rcases wB_text_of (d + 1) b (fun y hy acc => ib y hy (hb y hy) (d + 1) acc) (ln acc d ([114, 101, 112, 101, 97, 116, 32] ++ Lib.itoa n ++ [32, 123])) with e1 | e1
      · rw [e1]
        left
        rw [text]
        show _ = acc ++ (tabs d ++ (line 8 e0 e0 n ex0 d (texts b (d + 1)) none ++ [10]))
        rw [line_rep]; unfold ln; simp
      · right; rw [ln_len]; omega
theorem wB_text {e : Nat} {l : List St} (h : ∀ s ∈ l, Gd e s) (hs : ∀ s ∈ l, Sh 6000 s) (d : Nat) (acc : List UInt8) : wB l d acc = acc ++ texts l d ∨ 6000 < (wB l d acc).length :=
  wB_text_of d l (fun x hx acc => wS_text (h x hx) (hs x hx) d acc) acc

/-- The words of a declaration. -/
def dwords (d : Dc) : List UInt8 :=
  if d.kind = 1 then [118, 97, 114, 32] ++ d.name.data.toList
  else if d.kind = 2 then [119, 105, 100, 101, 32] ++ d.name.data.toList
  else if d.kind = 3 then [97, 116, 111, 109, 105, 99, 32] ++ d.name.data.toList
  else if d.kind = 4 then [108, 111, 99, 97, 108, 32] ++ d.name.data.toList
  else if d.kind = 5 then [109, 117, 116, 101, 120, 32] ++ d.name.data.toList
  else if d.kind = 6 then [99, 104, 97, 110, 32] ++ d.name.data.toList ++ [32] ++ Lib.itoa d.n
  else []
def wD : List Dc → List UInt8 → List UInt8
  | [], acc => acc
  | x :: l, acc => wD l (ln acc 0 (dwords x))
def wT : List (List St) → List UInt8 → List UInt8
  | [], acc => acc
  | b :: l, acc => wT l (ln (wB b 1 (ln acc 0 [103, 111, 32, 123])) 0 [125])
/-- A program, written. -/
def wP (d : List Dc) (t : List (List St)) : List UInt8 := wT t (wD d [])
theorem dwords_text {d : Dc} (h : GdD d) (acc : List UInt8) : ln acc 0 (dwords d) = acc ++ dtext d := by
  unfold ln dtext dwords
  cases h with
  | plain k a p q h1 h5 ha =>
    have hk : k = 1 ∨ k = 2 ∨ k = 3 ∨ k = 4 ∨ k = 5 := by omega
    rcases hk with rfl | rfl | rfl | rfl | rfl <;> simp [dw, tabs]
  | chan n a p q hn ha => simp [dw, tabs]
theorem wD_text : ∀ (d : List Dc) (acc : List UInt8), (∀ x ∈ d, GdD x) → wD d acc = acc ++ dtexts d
  | [], acc, _ => by rw [wD, dtexts, List.flatMap_nil, List.append_nil]
  | x :: l, acc, h => by
    rw [wD, dwords_text (h x (List.mem_cons_self ..)), wD_text l _ (fun y hy => h y (List.mem_cons_of_mem _ hy)), dtexts, dtexts, List.flatMap_cons, List.append_assoc]
theorem wT_mono : ∀ (t : List (List St)) (acc : List UInt8), acc.length ≤ (wT t acc).length
  | [], acc => by rw [wT]; exact Nat.le_refl _
  | b :: l, acc => by
    rw [wT]
    have h1 := wT_mono l (ln (wB b 1 (ln acc 0 [103, 111, 32, 123])) 0 [125])
    have h2 := wB_mono b 1 (ln acc 0 [103, 111, 32, 123])
    rw [ln_len] at h1 h2
    omega
theorem wT_text {e : Nat} : ∀ (t : List (List St)) (acc : List UInt8), (∀ b ∈ t, ∀ s ∈ b, Gd e s) → (∀ b ∈ t, ∀ s ∈ b, Sh 6000 s) → wT t acc = acc ++ ttexts t ∨ 6000 < (wT t acc).length
  | [], acc, _, _ => by rw [wT, ttexts, List.flatMap_nil, List.append_nil]; exact .inl rfl
  | b :: l, acc, h, hs => by
    rw [wT]
    rcases wB_text (h b (List.mem_cons_self ..)) (hs b (List.mem_cons_self ..)) 1 (ln acc 0 [103, 111, 32, 123]) with e1 | e1
    · rcases wT_text l (ln (wB b 1 (ln acc 0 [103, 111, 32, 123])) 0 [125]) (fun y hy => h y (List.mem_cons_of_mem _ hy)) (fun y hy => hs y (List.mem_cons_of_mem _ hy)) with e2 | e2
      · left
        rw [e2, e1, ttexts, ttexts, List.flatMap_cons]
        unfold ln ttext tabs
        simp
      · exact .inr e2
    · right
      have := wT_mono l (ln (wB b 1 (ln acc 0 [103, 111, 32, 123])) 0 [125])
      rw [ln_len] at this
      omega
theorem wP_text {d : List Dc} {t : List (List St)} (h : Fine d t) (hs : ∀ b ∈ t, ∀ s ∈ b, Sh 6000 s) : wP d t = shown d t ∨ 6000 < (wP d t).length := by
  unfold wP
  rw [wD_text d [] h.ds, List.nil_append]
  exact wT_text t _ h.ts hs

/-- What Print answers. -/
def printP (d : List Dc) (t : List (List St)) : List UInt8 :=
  match (Pp.out (ba (wP d t))).1 with
  | none => []
  | some (d', t') => if (Dc.sames d' d && sameTs t' t) = true then wP d t else []
theorem out_len {s : List UInt8} {p : List Dc × List (List St)} (h : (Pp.out (ba s)).1 = some p) : s.length ≤ 6000 ∧ ∃ (K : Nat), Said K p.1 p.2 := by
  unfold Pp.out at h
  split at h
  · cases h
  · rename_i ts hts
    have hts : Lx.toks s = .good ts := hts
    refine ⟨Px.toks_len _ _ hts, ?_⟩
    simp only [] at h
    cases hp : Pp.prog (plOf (ba s) ts) (ts.map Lx.Tk.core) with
    | mk o m =>
      rw [hp] at h
      have h : o = some p := h
      subst h
      obtain ⟨d, t⟩ := p
      exact ⟨2 + (cost (ts.map Lx.Tk.core) + (ts.map Lx.Tk.core).length), prog_yl (by omega) (Px.toks_ok hts) (by omega) (by omega) hp⟩
theorem shown_out {d : List Dc} {t : List (List St)} (h : Fine d t) (hl : (shown d t).length ≤ 6000) : ∃ d' t' q, Pp.out (ba (shown d t)) = (some (d', t'), q) ∧ d'.map Dc.strip = d.map Dc.strip ∧ t'.map St.strips = t.map St.strips :=
  out_shown (by omega) d t hl h.ds h.ts h.d1 h.t0 h.t1
/-- What can be said, and is not too long, is printed as it is shown. -/
theorem printP_good {d : List Dc} {t : List (List St)} (h : Fine d t) (hs : ∀ b ∈ t, ∀ s ∈ b, Sh 6000 s) (hl : (shown d t).length ≤ 6000) : printP d t = shown d t := by
  rcases wP_text h hs with e | e
  · obtain ⟨d', t', q, h1, h2, h3⟩ := shown_out h hl
    unfold printP
    rw [e, h1]
    simp only []
    rw [if_pos]
    rw [Dc.sames_strips _ _ h2, sameTs_strips _ _ h3]; rfl
  · exfalso
    have h0 : (wP d t).length ≤ (shown d t).length := by
      unfold wP shown
      rw [wD_text d [] h.ds, List.nil_append]
      clear e hl
      have aux : ∀ (t : List (List St)) (acc : List UInt8), (∀ b ∈ t, ∀ s ∈ b, Gd 7 s) → (∀ b ∈ t, ∀ s ∈ b, Sh 6000 s) → (wT t acc).length ≤ (acc ++ ttexts t).length := by
        intro t
        induction t with
        | nil => intro acc _ _; rw [wT, ttexts, List.flatMap_nil, List.append_nil]; exact Nat.le_refl _
        | cons b l ih =>
          intro acc h1 h2
          rw [wT]
          have k1 := ih (ln (wB b 1 (ln acc 0 [103, 111, 32, 123])) 0 [125]) (fun y hy => h1 y (List.mem_cons_of_mem _ hy)) (fun y hy => h2 y (List.mem_cons_of_mem _ hy))
          have k2 := wB_le_of 1 b (fun x hx acc => wS_le (h1 b (List.mem_cons_self ..) x hx) (h2 b (List.mem_cons_self ..) x hx) 1 acc) (ln acc 0 [103, 111, 32, 123])
          rw [ttexts, List.flatMap_cons, ttext]
          rw [ttexts] at k1
          simp only [List.length_append, ln_len, List.length_cons, List.length_nil] at k1 k2 ⊢
          omega
      exact aux t _ h.ts hs
    omega
/-- Else nothing is. -/
theorem printP_none {d : List Dc} {t : List (List St)} (hs : ∀ b ∈ t, ∀ s ∈ b, Sh 6000 s) (hn : ¬ (Fine d t ∧ (shown d t).length ≤ 6000)) : printP d t = [] := by
  unfold printP
  split
  · rfl
  · rename_i d' t' h1
    split
    · rename_i h2
      exfalso
      rw [Bool.and_eq_true] at h2
      obtain ⟨hl, K, hK⟩ := out_len h1
      have hf : Fine d t := hK.fine.same h2.1 h2.2
      rcases wP_text hf hs with e | e
      · exact hn ⟨hf, by rw [← e]; exact hl⟩
      · omega
    · rfl
end Ps.Pu
end Go.Proofs.YtkobdephobaopaaGreatDoor
