/- What lex.split and lex.Tokens tell, of any text, at whatever memory in which ErrRange holds an error. -/
import Derived.Test.YtkobdephobaopaaGreatDoorSgA
import Derived.Test.YtkobdephobaopaaGreatDoorSgB
namespace Go.Proofs.YtkobdephobaopaaGreatDoor
open Go.RowKit

theorem use_full2 {P : Program} {c : Code} {l : Nat} {Q : Exit → Act → World → Prop} {a b : Act} {w : World} (e : a = b) (h : ∃ r, findLabel c l = some (Code.skip.seq r) ∧ r.wp P Q b w) : ∃ r, findLabel c l = some (Code.skip.seq r) ∧ r.wp P Q a w := by subst e; exact h

theorem use_full {P : Program} {c : Code} {l : Nat} {Q : Exit → Act → World → Prop} {a b : Act} {w : World} (e : a = b) (h : ∃ r, findLabel c l = some r ∧ r.wp P Q b w) : ∃ r, findLabel c l = some r ∧ r.wp P Q a w := by subst e; exact h

section
variable (s : ByteArray) (w0 : World) (R : Lx.Out) (hs : s.size ≤ 6000) (Q : Exit → Act → World → Prop) (a : Act) (w : World)

set_option maxRecDepth 10000 in
include hs in
theorem pass0' (hQ : ∀ a w, Ret s w0 R a w → Q .ret a w) (hJ : J s w0 R 0 a w) : ∃ r, findLabel splitBody 0 = some (Code.skip.seq r) ∧ r.wp Tryz.prog (After s w0 R (mu' s 0 a w) Q) a w := by
  obtain ⟨k, acc, f, x, fst, en, gd, list, c0, c1, c2, c3, hS, hI, hB⟩ := hJ
  have e := act_full a hS.size hS.df
  rw [hS.v0, hS.v5, hS.v6, hS.v7, hS.v8, hS.v9, hS.v10, hS.v11] at e
  have hm : mu' s 0 a w = (s.size - k) * 20000 + 15000 := hS.mu0 w
  generalize mu' s 0 a w = m at *
  by_cases hk : k = s.size
  · exact use_full2 e (seg0_end s w0 R k acc f x fst _ _ _ _ en gd list c0 c1 c2 c3 _ _ _ _ _ _ _ _ _ _ _ _ _ _ _ _ _ _ _ _ _ _ _ _ _ _ _ _ _ _ _ _ _ _ _ _ _ _ _ _ _ _ _ _ _ _ _ _ _ _ _ _ _ _ _ _ _ _ _ _ _ _ _ _ _ _ _ _ _ _ _ _ _ _ _ _ _ _ _ _ _ _ _ _ _ _ _ _ _ _ _ _ _ _ _ _ _ _ _ _ _ _ _ _ _ _ _ _ _ _ _ _ _ _ _ _ _ _ _ _ _ _ _ _ _ _ _ _ _ _ _ w Q m hI hB hs hk hQ)
  have hk : k < s.size := by have := hI.ps; omega
  by_cases h35 : s[k] = 35
  · exact use_full2 e (seg0_note s w0 R k acc f x fst _ _ _ _ en gd list c0 c1 c2 c3 _ _ _ _ _ _ _ _ _ _ _ _ _ _ _ _ _ _ _ _ _ _ _ _ _ _ _ _ _ _ _ _ _ _ _ _ _ _ _ _ _ _ _ _ _ _ _ _ _ _ _ _ _ _ _ _ _ _ _ _ _ _ _ _ _ _ _ _ _ _ _ _ _ _ _ _ _ _ _ _ _ _ _ _ _ _ _ _ _ _ _ _ _ _ _ _ _ _ _ _ _ _ _ _ _ _ _ _ _ _ _ _ _ _ _ _ _ _ _ _ _ _ _ _ _ _ _ _ _ _ _ w Q m hI hB hs hk hm h35)
  by_cases h10 : s[k] = 10
  · exact use_full2 e (seg0_feed s w0 R k acc f x fst _ _ _ _ en gd list c0 c1 c2 c3 _ _ _ _ _ _ _ _ _ _ _ _ _ _ _ _ _ _ _ _ _ _ _ _ _ _ _ _ _ _ _ _ _ _ _ _ _ _ _ _ _ _ _ _ _ _ _ _ _ _ _ _ _ _ _ _ _ _ _ _ _ _ _ _ _ _ _ _ _ _ _ _ _ _ _ _ _ _ _ _ _ _ _ _ _ _ _ _ _ _ _ _ _ _ _ _ _ _ _ _ _ _ _ _ _ _ _ _ _ _ _ _ _ _ _ _ _ _ _ _ _ _ _ _ _ _ _ _ _ _ _ w Q m hI hB hs hk hm h10)
  by_cases h32 : s[k] = 32
  · exact use_full2 e (seg0_blank s w0 R k acc f x fst _ _ _ _ en gd list c0 c1 c2 c3 _ _ _ _ _ _ _ _ _ _ _ _ _ _ _ _ _ _ _ _ _ _ _ _ _ _ _ _ _ _ _ _ _ _ _ _ _ _ _ _ _ _ _ _ _ _ _ _ _ _ _ _ _ _ _ _ _ _ _ _ _ _ _ _ _ _ _ _ _ _ _ _ _ _ _ _ _ _ _ _ _ _ _ _ _ _ _ _ _ _ _ _ _ _ _ _ _ _ _ _ _ _ _ _ _ _ _ _ _ _ _ _ _ _ _ _ _ _ _ _ _ _ _ _ _ _ _ _ _ _ _ w Q m hI hB hs hk hm h32)
  by_cases h9 : s[k] = 9
  · exact use_full2 e (seg0_tab s w0 R k acc f x fst _ _ _ _ en gd list c0 c1 c2 c3 _ _ _ _ _ _ _ _ _ _ _ _ _ _ _ _ _ _ _ _ _ _ _ _ _ _ _ _ _ _ _ _ _ _ _ _ _ _ _ _ _ _ _ _ _ _ _ _ _ _ _ _ _ _ _ _ _ _ _ _ _ _ _ _ _ _ _ _ _ _ _ _ _ _ _ _ _ _ _ _ _ _ _ _ _ _ _ _ _ _ _ _ _ _ _ _ _ _ _ _ _ _ _ _ _ _ _ _ _ _ _ _ _ _ _ _ _ _ _ _ _ _ _ _ _ _ _ _ _ _ _ w Q m hI hB hs hk hm h9)
  have hn : Lx.blank s[k] = false := by simp [Lx.blank, h32, h9, h10]
  cases hl : Lx.lower s[k] with
  | true => exact use_full2 e (seg0_word s w0 R k acc f x fst _ _ _ _ en gd list c0 c1 c2 c3 _ _ _ _ _ _ _ _ _ _ _ _ _ _ _ _ _ _ _ _ _ _ _ _ _ _ _ _ _ _ _ _ _ _ _ _ _ _ _ _ _ _ _ _ _ _ _ _ _ _ _ _ _ _ _ _ _ _ _ _ _ _ _ _ _ _ _ _ _ _ _ _ _ _ _ _ _ _ _ _ _ _ _ _ _ _ _ _ _ _ _ _ _ _ _ _ _ _ _ _ _ _ _ _ _ _ _ _ _ _ _ _ _ _ _ _ _ _ _ _ _ _ _ _ _ _ _ _ _ _ _ w Q m hI hB hs hk hm hn h35 hl)
  | false =>
    cases hd : Lx.digit s[k] with
    | true => exact use_full2 e (seg0_number s w0 R k acc f x fst _ _ _ _ en gd list c0 c1 c2 c3 _ _ _ _ _ _ _ _ _ _ _ _ _ _ _ _ _ _ _ _ _ _ _ _ _ _ _ _ _ _ _ _ _ _ _ _ _ _ _ _ _ _ _ _ _ _ _ _ _ _ _ _ _ _ _ _ _ _ _ _ _ _ _ _ _ _ _ _ _ _ _ _ _ _ _ _ _ _ _ _ _ _ _ _ _ _ _ _ _ _ _ _ _ _ _ _ _ _ _ _ _ _ _ _ _ _ _ _ _ _ _ _ _ _ _ _ _ _ _ _ _ _ _ _ _ _ _ _ _ _ _ w Q m hI hB hs hk hm hn h35 hl hd)
    | false => exact use_full2 e (seg0_sign s w0 R k acc f x fst _ _ _ _ en gd list c0 c1 c2 c3 _ _ _ _ _ _ _ _ _ _ _ _ _ _ _ _ _ _ _ _ _ _ _ _ _ _ _ _ _ _ _ _ _ _ _ _ _ _ _ _ _ _ _ _ _ _ _ _ _ _ _ _ _ _ _ _ _ _ _ _ _ _ _ _ _ _ _ _ _ _ _ _ _ _ _ _ _ _ _ _ _ _ _ _ _ _ _ _ _ _ _ _ _ _ _ _ _ _ _ _ _ _ _ _ _ _ _ _ _ _ _ _ _ _ _ _ _ _ _ _ _ _ _ _ _ _ _ _ _ _ _ w Q m hI hB hs hk hm hn h35 hl hd)

include hs in
theorem pass0 (hQ : ∀ a w, Ret s w0 R a w → Q .ret a w) (hJ : J s w0 R 0 a w) : ∃ r, findLabel splitBody 0 = some r ∧ r.wp Tryz.prog (After s w0 R (mu' s 0 a w) Q) a w := by
  obtain ⟨r, hr, hw⟩ := pass0' s w0 R hs Q a w hQ hJ
  exact ⟨_, hr, wp_seq (wp_skip hw)⟩

set_option maxRecDepth 10000 in
include hs in
theorem pass1 (hJ : J s w0 R 1 a w) : ∃ r, findLabel splitBody 1 = some r ∧ r.wp Tryz.prog (After s w0 R (mu' s 1 a w) Q) a w := by
  obtain ⟨k, acc, f, x, fst, en, gd, list, c0, c1, c2, c3, hS, hI, hB⟩ := hJ
  have e := act_full a hS.size hS.df
  rw [hS.v0, hS.v5, hS.v6, hS.v7, hS.v8, hS.v9, hS.v10, hS.v11] at e
  have hm : mu' s 1 a w = (s.size - k) * 20000 + (if stopAt s k then 16000 else 14000) := hS.mu1 w
  generalize mu' s 1 a w = m at *
  by_cases hk : k = s.size
  · exact use_full e (seg1_end s w0 R k acc f x fst _ _ _ _ en gd list c0 c1 c2 c3 _ _ _ _ _ _ _ _ _ _ _ _ _ _ _ _ _ _ _ _ _ _ _ _ _ _ _ _ _ _ _ _ _ _ _ _ _ _ _ _ _ _ _ _ _ _ _ _ _ _ _ _ _ _ _ _ _ _ _ _ _ _ _ _ _ _ _ _ _ _ _ _ _ _ _ _ _ _ _ _ _ _ _ _ _ _ _ _ _ _ _ _ _ _ _ _ _ _ _ _ _ _ _ _ _ _ _ _ _ _ _ _ _ _ _ _ _ _ _ _ _ _ _ _ _ _ _ _ _ _ _ w Q m hI hB hs hm hk)
  have hk : k < s.size := by have := hI.ps; have := hI.kp; omega
  by_cases h10 : s[k] = 10
  · exact use_full e (seg1_feed s w0 R k acc f x fst _ _ _ _ en gd list c0 c1 c2 c3 _ _ _ _ _ _ _ _ _ _ _ _ _ _ _ _ _ _ _ _ _ _ _ _ _ _ _ _ _ _ _ _ _ _ _ _ _ _ _ _ _ _ _ _ _ _ _ _ _ _ _ _ _ _ _ _ _ _ _ _ _ _ _ _ _ _ _ _ _ _ _ _ _ _ _ _ _ _ _ _ _ _ _ _ _ _ _ _ _ _ _ _ _ _ _ _ _ _ _ _ _ _ _ _ _ _ _ _ _ _ _ _ _ _ _ _ _ _ _ _ _ _ _ _ _ _ _ _ _ _ _ w Q m hI hB hs hm hk h10)
  · exact use_full e (seg1_on s w0 R k acc f x fst _ _ _ _ en gd list c0 c1 c2 c3 _ _ _ _ _ _ _ _ _ _ _ _ _ _ _ _ _ _ _ _ _ _ _ _ _ _ _ _ _ _ _ _ _ _ _ _ _ _ _ _ _ _ _ _ _ _ _ _ _ _ _ _ _ _ _ _ _ _ _ _ _ _ _ _ _ _ _ _ _ _ _ _ _ _ _ _ _ _ _ _ _ _ _ _ _ _ _ _ _ _ _ _ _ _ _ _ _ _ _ _ _ _ _ _ _ _ _ _ _ _ _ _ _ _ _ _ _ _ _ _ _ _ _ _ _ _ _ _ _ _ _ w Q m hI hB hs hm hk h10)

set_option maxRecDepth 10000 in
include hs in
theorem pass2 (hJ : J s w0 R 2 a w) : ∃ r, findLabel splitBody 2 = some r ∧ r.wp Tryz.prog (After s w0 R (mu' s 2 a w) Q) a w := by
  obtain ⟨k, en, acc, f, x, fst, gd, list, hS, hI, hB, h1, h2, ⟨hk, hl⟩, h4⟩ := hJ
  have e := act_full a hS.size hS.df
  rw [hS.v0, hS.v5, hS.v6, hS.v7, hS.v8, hS.v9, hS.v10, hS.v11] at e
  have hm : mu' s 2 a w = (s.size - k) * 20000 + (s.size - en) + 5 := hS.muE 2 w
  generalize mu' s 2 a w = m at *
  by_cases hn : en + 1 < s.size
  · cases hg : Lx.goes s[en + 1] with
    | true => exact use_full e (seg2_on s w0 R k en acc f x fst _ _ _ _ gd list _ _ _ _ _ _ _ _ _ _ _ _ _ _ _ _ _ _ _ _ _ _ _ _ _ _ _ _ _ _ _ _ _ _ _ _ _ _ _ _ _ _ _ _ _ _ _ _ _ _ _ _ _ _ _ _ _ _ _ _ _ _ _ _ _ _ _ _ _ _ _ _ _ _ _ _ _ _ _ _ _ _ _ _ _ _ _ _ _ _ _ _ _ _ _ _ _ _ _ _ _ _ _ _ _ _ _ _ _ _ _ _ _ _ _ _ _ _ _ _ _ _ _ _ _ _ _ _ _ _ _ w Q m hI hB hs hm h1 h2 hk hl h4 hn hg)
    | false => exact use_full e (seg2_stop s w0 R k en acc f x fst _ _ _ _ gd list _ _ _ _ _ _ _ _ _ _ _ _ _ _ _ _ _ _ _ _ _ _ _ _ _ _ _ _ _ _ _ _ _ _ _ _ _ _ _ _ _ _ _ _ _ _ _ _ _ _ _ _ _ _ _ _ _ _ _ _ _ _ _ _ _ _ _ _ _ _ _ _ _ _ _ _ _ _ _ _ _ _ _ _ _ _ _ _ _ _ _ _ _ _ _ _ _ _ _ _ _ _ _ _ _ _ _ _ _ _ _ _ _ _ _ _ _ _ _ _ _ _ _ _ _ _ _ _ _ _ _ w Q m hI hB hs hm h1 h2 hk hl h4 hn hg)
  · exact use_full e (seg2_last s w0 R k en acc f x fst _ _ _ _ gd list _ _ _ _ _ _ _ _ _ _ _ _ _ _ _ _ _ _ _ _ _ _ _ _ _ _ _ _ _ _ _ _ _ _ _ _ _ _ _ _ _ _ _ _ _ _ _ _ _ _ _ _ _ _ _ _ _ _ _ _ _ _ _ _ _ _ _ _ _ _ _ _ _ _ _ _ _ _ _ _ _ _ _ _ _ _ _ _ _ _ _ _ _ _ _ _ _ _ _ _ _ _ _ _ _ _ _ _ _ _ _ _ _ _ _ _ _ _ _ _ _ _ _ _ _ _ _ _ _ _ _ w Q m hI hB hs hm h1 h2 hk hl h4 hn)

set_option maxRecDepth 10000 in
include hs in
theorem pass3 (hE : Er w0) (hJ : J s w0 R 3 a w) : ∃ r, findLabel splitBody 3 = some r ∧ r.wp Tryz.prog (After s w0 R (mu' s 3 a w) Q) a w := by
  obtain ⟨k, en, acc, f, x, fst, gd, list, hS, hI, hB, h1, h2, ⟨hk, hl, hd⟩, h4⟩ := hJ
  have e := act_full a hS.size hS.df
  rw [hS.v0, hS.v5, hS.v6, hS.v7, hS.v8, hS.v9, hS.v10, hS.v11] at e
  have hm : mu' s 3 a w = (s.size - k) * 20000 + (s.size - en) + 5 := hS.muE 3 w
  generalize mu' s 3 a w = m at *
  by_cases hn : en + 1 < s.size
  · cases hg : Lx.digit s[en + 1] with
    | true => exact use_full e (seg3_on s w0 R k en acc f x fst _ _ _ _ gd list _ _ _ _ _ _ _ _ _ _ _ _ _ _ _ _ _ _ _ _ _ _ _ _ _ _ _ _ _ _ _ _ _ _ _ _ _ _ _ _ _ _ _ _ _ _ _ _ _ _ _ _ _ _ _ _ _ _ _ _ _ _ _ _ _ _ _ _ _ _ _ _ _ _ _ _ _ _ _ _ _ _ _ _ _ _ _ _ _ _ _ _ _ _ _ _ _ _ _ _ _ _ _ _ _ _ _ _ _ _ _ _ _ _ _ _ _ _ _ _ _ _ _ _ _ _ _ _ _ _ _ w Q m hI hB hs hm h1 h2 hk hl hd h4 hn hg)
    | false => exact use_full e (seg3_stop s w0 R k en acc f x fst _ _ _ _ gd list _ _ _ _ _ _ _ _ _ _ _ _ _ _ _ _ _ _ _ _ _ _ _ _ _ _ _ _ _ _ _ _ _ _ _ _ _ _ _ _ _ _ _ _ _ _ _ _ _ _ _ _ _ _ _ _ _ _ _ _ _ _ _ _ _ _ _ _ _ _ _ _ _ _ _ _ _ _ _ _ _ _ _ _ _ _ _ _ _ _ _ _ _ _ _ _ _ _ _ _ _ _ _ _ _ _ _ _ _ _ _ _ _ _ _ _ _ _ _ _ _ _ _ _ _ _ _ _ _ _ _ w Q m hI hB hs hm h1 h2 hk hl hd h4 hn hg hE)
  · exact use_full e (seg3_last s w0 R k en acc f x fst _ _ _ _ gd list _ _ _ _ _ _ _ _ _ _ _ _ _ _ _ _ _ _ _ _ _ _ _ _ _ _ _ _ _ _ _ _ _ _ _ _ _ _ _ _ _ _ _ _ _ _ _ _ _ _ _ _ _ _ _ _ _ _ _ _ _ _ _ _ _ _ _ _ _ _ _ _ _ _ _ _ _ _ _ _ _ _ _ _ _ _ _ _ _ _ _ _ _ _ _ _ _ _ _ _ _ _ _ _ _ _ _ _ _ _ _ _ _ _ _ _ _ _ _ _ _ _ _ _ _ _ _ _ _ _ _ w Q m hI hB hs hm h1 h2 hk hl hd h4 hn hE)

set_option maxRecDepth 10000 in
include hs in
theorem pass4 (hQ : ∀ a w, Ret s w0 R a w → Q .ret a w) (hJ : J s w0 R 4 a w) : ∃ r, findLabel splitBody 4 = some r ∧ r.wp Tryz.prog (After s w0 R (mu' s 4 a w) Q) a w := by
  obtain ⟨k, acc, f, x, fst, gd, list, hS, hI, hB, ⟨hk, hl, hd, h1, h2⟩⟩ := hJ
  have e := act_full a hS.size hS.df
  rw [hS.v0, hS.v5, hS.v6, hS.v7, hS.v8, hS.v9, hS.v10, hS.v11] at e
  have hm : mu' s 4 a w = (s.size - k) * 20000 + 4 := hS.muE 4 w
  generalize mu' s 4 a w = m at *
  have ho := one_sign hk hl hd
  have hle := signLen_le (s.data.toList.drop k)
  have hll : s.data.toList.length = s.size := by simp
  rw [List.length_drop] at hle
  by_cases hn : signLen (s.data.toList.drop k) = 0
  · rw [if_pos hn] at ho
    exact use_full e (seg4_bad s w0 R k acc f x fst _ _ _ _ gd list _ _ _ _ _ _ _ _ _ _ _ _ _ _ _ _ _ _ _ _ _ _ _ _ _ _ _ _ _ _ _ _ _ _ _ _ _ _ _ _ _ _ _ _ _ _ _ _ _ _ _ _ _ _ _ _ _ _ _ _ _ _ _ _ _ _ _ _ _ _ _ _ _ _ _ _ _ _ _ _ _ _ _ _ _ _ _ _ _ _ _ _ _ _ _ _ _ _ _ _ _ _ _ _ _ _ _ _ _ _ _ _ _ _ _ _ _ _ _ _ _ _ _ _ _ _ _ _ _ _ _ w Q m hI hB hs hk h1 h2 hn ho hQ)
  · rw [if_neg hn] at ho
    exact use_full e (seg4_good s w0 R k (signLen (s.data.toList.drop k)) acc f x fst _ _ _ _ gd list _ _ _ _ _ _ _ _ _ _ _ _ _ _ _ _ _ _ _ _ _ _ _ _ _ _ _ _ _ _ _ _ _ _ _ _ _ _ _ _ _ _ _ _ _ _ _ _ _ _ _ _ _ _ _ _ _ _ _ _ _ _ _ _ _ _ _ _ _ _ _ _ _ _ _ _ _ _ _ _ _ _ _ _ _ _ _ _ _ _ _ _ _ _ _ _ _ _ _ _ _ _ _ _ _ _ _ _ _ _ _ _ _ _ _ _ _ _ _ _ _ _ _ _ _ _ _ _ _ _ _ w Q m hI hB hs hk h1 h2 hm rfl (by omega) (by omega) (by rw [ho, Nat.add_sub_cancel_left]))

set_option maxRecDepth 10000 in
include hs in
theorem pass5 (hQ : ∀ a w, Ret s w0 R a w → Q .ret a w) (hJ : J s w0 R 5 a w) : ∃ r, findLabel splitBody 5 = some r ∧ r.wp Tryz.prog (After s w0 R (mu' s 5 a w) Q) a w := by
  obtain ⟨k, en, kd, n, b, acc, f, x, fst, list, hS, hI, hB, ⟨hk, h1, h2⟩, h4, h5, h6, h7⟩ := hJ
  have e := act_full a hS.size hS.df
  rw [hS.v0, hS.v5, hS.v6, hS.v7, hS.v8, hS.v9, hS.v10, hS.v11] at e
  have hm : mu' s 5 a w = (s.size - k) * 20000 + 3 := hS.muE 5 w
  generalize mu' s 5 a w = m at *
  cases b with
  | true => exact use_full e (seg5_good s w0 R k en kd n acc f x fst _ _ _ _ list _ _ _ _ _ _ _ _ _ _ _ _ _ _ _ _ _ _ _ _ _ _ _ _ _ _ _ _ _ _ _ _ _ _ _ _ _ _ _ _ _ _ _ _ _ _ _ _ _ _ _ _ _ _ _ _ _ _ _ _ _ _ _ _ _ _ _ _ _ _ _ _ _ _ _ _ _ _ _ _ _ _ _ _ _ _ _ _ _ _ _ _ _ _ _ _ _ _ _ _ _ _ _ _ _ _ _ _ _ _ _ _ _ _ _ _ _ _ _ _ _ _ _ _ _ _ _ _ _ _ _ w Q m hI hB hs hm hk h1 h2 (h6 rfl).1 h5 (h6 rfl).2)
  | false => exact use_full e (seg5_bad s w0 R k en kd n acc f x fst _ _ _ _ list _ _ _ _ _ _ _ _ _ _ _ _ _ _ _ _ _ _ _ _ _ _ _ _ _ _ _ _ _ _ _ _ _ _ _ _ _ _ _ _ _ _ _ _ _ _ _ _ _ _ _ _ _ _ _ _ _ _ _ _ _ _ _ _ _ _ _ _ _ _ _ _ _ _ _ _ _ _ _ _ _ _ _ _ _ _ _ _ _ _ _ _ _ _ _ _ _ _ _ _ _ _ _ _ _ _ _ _ _ _ _ _ _ _ _ _ _ _ _ _ _ _ _ _ _ _ _ _ _ _ _ w Q m hI hB hk h1 h2 (h7 rfl) hQ)

end

theorem results_of (s : ByteArray) (w0 : World) (R : Lx.Out) (a : Act) (w : World) (h : Ret s w0 R a w) (P : Ending → World → Prop)
    (hP : ∀ v p e w, Told s w0 R v p e w → P (.returned (.tuple #[v, p, e])) w) : bodyPost Tryz.prog Tryz.f52 P .ret a w := by
  have e := act_full a h.size h.df
  have ht := h.told
  generalize h2 : a.tmps.getD 2 undef = v at *
  generalize h3 : a.tmps.getD 3 undef = p at *
  generalize h4 : a.tmps.getD 4 undef = q at *
  refine bodyPost_ret (v := .tuple #[v, p, q]) ?_ h.df (hP v p q w ht)
  rw [e]
  simp [results, Tryz.results52, go_sem]

theorem first_box (w : World) (c0 c1 c2 c3 : Value) (t : TypeId) : Box (w.alloc (.cells #[c0, c1, c2, c3] t)) w.heap.size c0 c1 c2 c3 :=
  ⟨by simp, by simp, by simp, by simp, by simp, by simp, by simp, by simp⟩

set_option maxRecDepth 10000 in
set_option maxHeartbeats 1000000 in
theorem split_any (s : ByteArray) (w : World) (hs : s.size ≤ 6000) (hE : Er w) (R : Lx.Out) (hR : Lx.run (s.size + 1) 0 s.data.toList = R) :
    Calls Tryz.prog 52 #[.string s] w fun e w' => ∃ v p q, e = .returned (.tuple #[v, p, q]) ∧ Told s w R v p q w' := by
  have hOf : Hid (∀ w, Calls Tryz.prog 51 #[.string s, .int .i64 0] w fun e w' => e = .returned (.complex .f64 4607182418800017408 4607182418800017408) ∧ w' = w) := by
    intro w
    have := of_in s 0 (by omega) (Nat.zero_le _) w
    rw [(first_words s).1, (first_words s).2] at this
    exact this
  go_enter Tryz.func52, Tryz.ntmps52
  go_wp2_with fail
  have hQ : ∀ (Q : Exit → Act → World → Prop), (∀ a w', Q .ret a w' = bodyPost Tryz.prog Tryz.f52 (fun e w' => ∃ v p q, e = .returned (.tuple #[v, p, q]) ∧ Told s w R v p q w') .ret a w') → ∀ a w', Ret s w R a w' → Q .ret a w' := by
    intro Q hq a w' h
    rw [hq]
    exact results_of s w R a w' h _ fun v p e w'' ht => ⟨v, p, e, rfl, ht⟩
  refine wp_scope_many (J s w R) (mu' s) ?_ ?_
  · go_wp2_with fail
    refine (hOf.out _).mono ?_
    rintro e w1 ⟨rfl, rfl⟩
    go_wp2_with fail
    go_step3
    rename_i K hK
    refine hK _ _ ?_
    clear hK
    have key : ∀ (Q : Exit → Act → World → Prop) (a : Act) (w' : World), (∀ a w', Ret s w1 R a w' → Q .ret a w') → J s w1 R 0 a w' → ∀ rest, findLabel splitBody 0 = some (Code.skip.seq rest) → rest.wp Tryz.prog (jumps (J s w1 R) Q) a w' := by
      intro Q a w' h1 h2 rest h3
      obtain ⟨r, hr, hw⟩ := pass0' s w1 R hs Q a w' h1 h2
      rw [hr] at h3
      obtain ⟨_, rfl⟩ := Code.seq.inj (Option.some.inj h3)
      refine wp_mono hw fun e a w h => ?_
      cases e with
      | goto l => exact h.1
      | _ => exact h
    refine key _ _ _ (hQ _ fun _ _ => rfl) ?_ _ rfl
    refine ⟨0, [], s.size + 1, 1, 0, .int .i64 0, .bool false, .slice none 0 0, .int .i64 0, .string ⟨#[]⟩, .int .i64 0, .complex .f64 0 0, ⟨rfl, rfl, rfl, by rw [← one_rung]; rfl, rfl, rfl, rfl, rfl, rfl, rfl⟩, ⟨Nat.le_refl _, Nat.zero_le _, by omega, by rw [List.drop_zero, Lx.pre_nil]; exact hR, Nat.le_refl _, rfl, World.ownsRow_nil _ _ _ _, (Below.refl _ _).alloc (Nat.le_refl _) _, Nat.le_refl _⟩, ?_⟩
    exact first_box _ _ _ _ _ _
  · intro l a w' hJ
    match l, hJ with
    | 0, hJ => exact pass0 s w R hs _ a w' (hQ _ fun _ _ => rfl) hJ
    | 1, hJ => exact pass1 s w R hs _ a w' hJ
    | 2, hJ => exact pass2 s w R hs _ a w' hJ
    | 3, hJ => exact pass3 s w R hs _ a w' hE hJ
    | 4, hJ => exact pass4 s w R hs _ a w' (hQ _ fun _ _ => rfl) hJ
    | 5, hJ => exact pass5 s w R hs _ a w' (hQ _ fun _ _ => rfl) hJ

/-- What lex.Tokens tells. -/
theorem tokens_any (s : ByteArray) (w : World) (hs : s.size ≤ 1125899906842624) (hE : Er w) (R : Lx.Out) (hR : Lx.toks s.data.toList = R) :
    Calls Tryz.prog 27 #[.string s] w fun e w' => ∃ v p q, e = .returned (.tuple #[v, p, q]) ∧ Told s w R v p q w' := by
  have hll : s.data.toList.length = s.size := by simp
  unfold Lx.toks at hR
  rw [hll] at hR
  by_cases h : 6000 < s.size
  · rw [if_pos h] at hR
    have hO : Hid (∀ w, _) := of_in s 6000 hs (by omega)
    have hgt : (6000 : Int) < (s.size : Int) := by omega
    have HR : Hid (.bad 6000 = R) := hR
    clear hR h hll
    go_enter Tryz.func27, Tryz.ntmps27
    go_wp2_with fail
    refine (hO.out _).mono ?_
    rintro e w1 ⟨rfl, rfl⟩
    go_wp2
    go_ret3
    refine ⟨_, _, _, rfl, ?_⟩
    rw [← HR.out]
    exact ⟨rfl, rfl, rfl, Below.refl _ _⟩
  · rw [if_neg h] at hR
    have hS : Hid (∀ w, Er w → _) := fun w hE => split_any s w (by omega) hE R hR
    have hgt : decide ((6000 : Int) < (s.size : Int)) = false := decide_eq_false (by omega)
    have HE : Hid (Er w) := hE
    clear hR h hll hE
    go_enter Tryz.func27, Tryz.ntmps27
    go_wp2_with fail
    refine (hS.out _ HE.out).mono ?_
    rintro e w1 ⟨v, p, q, rfl, ht⟩
    have HT : Hid (Told _ _ _ _ _ _ _) := ht
    clear ht
    go_wp2
    go_ret3
    exact ⟨_, _, _, rfl, HT.out⟩

end Go.Proofs.YtkobdephobaopaaGreatDoor
