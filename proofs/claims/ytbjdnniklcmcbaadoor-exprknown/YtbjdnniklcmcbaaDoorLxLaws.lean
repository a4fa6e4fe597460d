/- Tokens of texts that are put together; words; what stands between tokens: said plainly. No program, no condition. -/
import Derived.Test.YtbjdnniklcmcbaaDoorLxNum
namespace Go.Proofs.YtbjdnniklcmcbaaDoor
namespace Lx

def Out.shift (q : Nat) : Out → Out
  | .bad p => .bad (p + q)
  | .good ts => .good (ts.map fun t => { t with at' := t.at' + q })

theorem shift_pre (q : Nat) (acc : List Tk) (o : Out) : (o.pre acc).shift q = (o.shift q).pre (acc.map fun t => { t with at' := t.at' + q }) := by
  cases o <;> simp [Out.pre, Out.shift]

theorem run_shift (q : Nat) (f : Nat) : ∀ (p : Nat) (l : List UInt8), run f (p + q) l = (run f p l).shift q := by
  induction f with
  | zero => intro p l; rfl
  | succ f ih =>
    intro p l
    cases l with
    | nil => rfl
    | cons c r =>
      rw [run_cons, run_cons]
      split
      · rw [show p + q + 1 = p + 1 + q by omega]; exact ih _ _
      · split
        · rw [show p + q + 1 + (r.takeWhile noFeed).length = p + 1 + (r.takeWhile noFeed).length + q by omega]; exact ih _ _
        · cases one (c :: r) with
          | none => rfl
          | some x =>
            obtain ⟨k, len, n⟩ := x
            simp only []
            rw [shift_pre, show p + q + len = p + len + q by omega, ih]
            rfl

theorem takeWhile_stop (p : UInt8 → Bool) (r t : List UInt8) (b : UInt8) (hb : p b = false) : (r ++ b :: t).takeWhile p = r.takeWhile p := by
  induction r with
  | nil => simp [hb]
  | cons c r ih =>
    rw [List.cons_append, List.takeWhile_cons, List.takeWhile_cons, ih]

theorem head_stop (r t : List UInt8) : (r ++ 10 :: t).head? = some 61 ↔ r.head? = some 61 := by
  cases r with
  | nil => simp
  | cons c r => simp

theorem one_stop (c : UInt8) (r t : List UInt8) : one (c :: (r ++ 10 :: t)) = one (c :: r) := by
  rw [one_cons, one_cons, takeWhile_stop goes r t 10 (by decide), takeWhile_stop digit r t 10 (by decide)]
  simp only [head_stop]

theorem run_ne (f : Nat) : ∀ (p : Nat) (l : List UInt8) (ts : List Tk), run f p l = .good ts → ts ≠ [] := by
  induction f with
  | zero => intro p l ts h; cases h
  | succ f ih =>
    intro p l ts h
    cases l with
    | nil => simp [run] at h; rw [← h]; simp
    | cons c r =>
      rw [run_cons] at h
      split at h
      · exact ih _ _ _ h
      · split at h
        · exact ih _ _ _ h
        · cases ho : one (c :: r) with
          | none => rw [ho] at h; cases h
          | some x =>
            obtain ⟨k, len, n⟩ := x
            rw [ho] at h
            simp only [] at h
            cases hr : run f (p + len) ((c :: r).drop len) with
            | bad q => rw [hr] at h; cases h
            | good us => rw [hr] at h; simp [Out.pre] at h; rw [← h]; simp

/-- What follows a text and a line feed. -/
def Out.andThen (a : Out) (b : Out) : Out :=
  match a with
  | .bad q => .bad q
  | .good ts => b.pre ts.dropLast

theorem run_feed (t : List UInt8) (gt : Nat) (hgt : t.length < gt) (f : Nat) : ∀ (p g : Nat) (l : List UInt8), l.length < f → (l ++ 10 :: t).length < g →
    run g p (l ++ 10 :: t) = (run f p l).andThen (run gt (p + l.length + 1) t) := by
  induction f with
  | zero => intro p g l h; omega
  | succ f ih =>
    intro p g l hf hg
    cases g with
    | zero => omega
    | succ g =>
      cases l with
      | nil =>
        show run (g + 1) p (10 :: t) = (run (f + 1) p []).andThen _
        rw [run_cons, if_pos (by decide)]
        simp [run, Out.andThen, pre_nil]
        exact run_fuel _ _ _ _ (by simp at hg; omega) hgt
      | cons c r =>
        simp only [List.cons_append, List.length_cons, List.length_append] at hf hg
        rw [List.cons_append, run_cons, run_cons, one_stop]
        split
        · rw [ih (p + 1) g r (by omega) (by simp; omega)]
          simp only [List.length_cons]
          rw [show p + 1 + r.length + 1 = p + (r.length + 1) + 1 by omega]
        · split
          · have hk : (r.takeWhile noFeed).length ≤ r.length := List.Sublist.length_le (List.takeWhile_sublist _)
            rw [takeWhile_stop noFeed r t 10 (by decide), List.drop_append_of_le_length hk]
            rw [ih _ g _ (by simp; omega) (by simp; omega)]
            rw [show p + 1 + (r.takeWhile noFeed).length + (r.drop (r.takeWhile noFeed).length).length + 1 = p + (c :: r).length + 1 by simp; omega]
          · cases ho : one (c :: r) with
            | none => rfl
            | some x =>
              obtain ⟨k, len, n⟩ := x
              have hl := one_len ho
              simp only []
              rw [← List.cons_append, List.drop_append_of_le_length hl.2, List.take_append_of_le_length hl.2]
              simp only [List.length_cons] at hl
              rw [ih _ g _ (by simp; omega) (by simp; omega)]
              rw [show p + len + ((c :: r).drop len).length + 1 = p + (c :: r).length + 1 by simp; omega]
              cases hr : run f (p + len) ((c :: r).drop len) with
              | bad q => rfl
              | good us =>
                have hne := run_ne _ _ _ _ hr
                show Out.pre [_] (Out.pre us.dropLast _) = Out.pre ([_] ++ us).dropLast _
                rw [pre_pre]
                cases us with
                | nil => exact absurd rfl hne
                | cons u us => rfl

theorem toks_feed (a b : List UInt8) (h : (a ++ 10 :: b).length ≤ 6000) : toks (a ++ 10 :: b) = (toks a).andThen ((toks b).shift (a.length + 1)) := by
  simp only [List.length_append, List.length_cons] at h
  unfold toks
  rw [if_neg (by simp; omega), if_neg (by omega), if_neg (by omega)]
  rw [run_feed b (b.length + 1) (by omega) (a.length + 1) 0 _ a (by omega) (by omega)]
  rw [show 0 + a.length + 1 = 0 + (a.length + 1) by omega, run_shift]

/-- A word. -/
def isWord : List UInt8 → Bool
  | [] => false
  | c :: r => lower c && r.all goes && decide (r.length ≤ 11)

theorem takeWhile_full (p : UInt8 → Bool) (r : List UInt8) (h : r.all p = true) : r.takeWhile p = r := by
  induction r with
  | nil => rfl
  | cons c r ih => simp at h; rw [List.takeWhile_cons, if_pos h.1, ih (by simpa using h.2)]

theorem lower_not (c : UInt8) (h : lower c = true) : blank c = false ∧ c ≠ 35 := by
  have h1 : 97 ≤ c.toNat := by simp [lower] at h; omega
  have h2 : ∀ d : UInt8, d.toNat < 97 → c ≠ d := by intro d hd e; subst e; omega
  have a1 := h2 32 (by decide)
  have a2 := h2 9 (by decide)
  have a3 := h2 10 (by decide)
  exact ⟨by simp [blank, a1, a2, a3], h2 35 (by decide)⟩

theorem word_toks (l : List UInt8) (h : isWord l = true) : toks l = .good [⟨1, 0, l, 0⟩, ⟨4, l.length, [], 0⟩] := by
  cases l with
  | nil => cases h
  | cons c r =>
    simp only [isWord, Bool.and_eq_true, decide_eq_true_eq] at h
    obtain ⟨⟨h1, h2⟩, h3⟩ := h
    obtain ⟨n1, n2⟩ := lower_not c h1
    have ho : one (c :: r) = some (1, 1 + r.length, 0) := by
      rw [one_cons, if_pos h1, takeWhile_full goes r h2, if_pos (by omega)]
    unfold toks
    rw [if_neg (by simp; omega), List.length_cons, run_cons, if_neg (by rw [n1]; decide), if_neg n2, ho]
    simp only []
    have e1 : (c :: r).drop (1 + r.length) = [] := List.drop_of_length_le (by simp; omega)
    have e2 : (c :: r).take (1 + r.length) = c :: r := List.take_of_length_le (by simp; omega)
    rw [e1, e2]
    simp [run, Out.pre]; omega

/-- Each token is what its kind says. -/
def Fit (t : Tk) : Prop := (t.kind = 1 → isWord t.text = true) ∧ (t.kind = 4 ↔ t.text = [])

theorem take_one (c : UInt8) (r : List UInt8) (p : UInt8 → Bool) : (c :: r).take (1 + (r.takeWhile p).length) = c :: r.takeWhile p := by
  rw [Nat.add_comm, List.take_succ_cons]
  congr 1
  induction r with
  | nil => rfl
  | cons d r ih =>
    rw [List.takeWhile_cons]
    split
    · rw [List.length_cons, List.take_succ_cons, ih]
    · rfl

theorem one_fit (c : UInt8) (r : List UInt8) {k len n : Nat} (h : one (c :: r) = some (k, len, n)) : k ≠ 4 ∧ (k = 1 → isWord ((c :: r).take len) = true) := by
  rw [one_cons] at h
  by_cases c1 : lower c = true
  · rw [if_pos c1] at h
    split at h
    · rename_i h2
      simp at h
      obtain ⟨rfl, rfl, rfl⟩ := h
      refine ⟨by decide, fun _ => ?_⟩
      rw [take_one]
      simp only [isWord, c1, Bool.true_and, Bool.and_eq_true, decide_eq_true_eq]
      exact ⟨by rw [List.all_eq_true]; exact takeWhile_all goes r, by omega⟩
    · cases h
  · rw [if_neg c1] at h
    have : k = 2 ∨ k = 3 := by
      by_cases c2 : digit c = true
      · rw [if_pos c2] at h
        cases hn : num (c :: r.takeWhile digit) with
        | none => rw [hn] at h; cases h
        | some m => rw [hn] at h; simp at h; omega
      · rw [if_neg c2] at h
        split at h
        · simp at h; omega
        · split at h
          · simp at h; omega
          · cases h
    exact ⟨by omega, fun e => by omega⟩

theorem run_fit (f : Nat) : ∀ (p : Nat) (l : List UInt8) (ts : List Tk), run f p l = .good ts → ∀ t ∈ ts, Fit t := by
  induction f with
  | zero => intro p l ts h; cases h
  | succ f ih =>
    intro p l ts h
    cases l with
    | nil =>
      simp [run] at h
      subst h
      intro t ht
      simp at ht
      subst ht
      exact ⟨fun e => absurd e (by show ¬ (4 = 1); decide), ⟨fun _ => rfl, fun _ => rfl⟩⟩
    | cons c r =>
      rw [run_cons] at h
      split at h
      · exact ih _ _ _ h
      · split at h
        · exact ih _ _ _ h
        · cases ho : one (c :: r) with
          | none => rw [ho] at h; cases h
          | some x =>
            obtain ⟨k, len, n⟩ := x
            have hl := one_len ho
            have hf := one_fit c r ho
            rw [ho] at h
            simp only [] at h
            cases hr : run f (p + len) ((c :: r).drop len) with
            | bad q => rw [hr] at h; cases h
            | good us =>
              rw [hr] at h
              simp only [Out.pre, Out.good.injEq] at h
              subst h
              intro t ht
              rcases List.mem_append.1 ht with ht | ht
              · rw [List.mem_singleton] at ht
                subst ht
                refine ⟨hf.2, ⟨fun e => absurd e hf.1, fun e => ?_⟩⟩
                exfalso
                have e' : (c :: r).take len = [] := e
                have : ((c :: r).take len).length = 0 := by rw [e']; rfl
                rw [List.length_take] at this
                omega
              · exact ih _ _ _ hr t ht

theorem toks_fit (l : List UInt8) (ts : List Tk) (h : toks l = .good ts) : ∀ t ∈ ts, Fit t := by
  unfold toks at h
  split at h
  · cases h
  · exact run_fit _ _ _ _ h

end Lx
end Go.Proofs.YtbjdnniklcmcbaaDoor
