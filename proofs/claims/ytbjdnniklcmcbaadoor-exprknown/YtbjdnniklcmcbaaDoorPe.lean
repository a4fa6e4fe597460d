/- What was read is printed and read the same; parentheses about it; from the left: said plainly. No program, no condition. -/
import Derived.Test.YtbjdnniklcmcbaaDoorPy
namespace Go.Proofs.YtbjdnniklcmcbaaDoor
theorem Ex.same_iff : ∀ a b : Ex, Ex.same a b = true → a = b := by
  have lists : ∀ l : List Ex, (∀ x ∈ l, ∀ b, Ex.same x b = true → x = b) → ∀ m, Ex.sames l m = true → l = m := by
    intro l
    induction l with
    | nil => intro _ m h; cases m with
      | nil => rfl
      | cons b m => rw [Ex.sames] at h; cases h
    | cons a l ih =>
      intro hl m h
      cases m with
      | nil => rw [Ex.sames] at h; cases h
      | cons b m =>
        rw [Ex.sames, Bool.and_eq_true] at h
        rw [hl a (List.mem_cons_self ..) b h.1, ih (fun x hx => hl x (List.mem_cons_of_mem _ hx)) m h.2]
  refine Ex.ind fun a ih b h => ?_
  rw [Ex.same_eq] at h
  simp only [Bool.and_eq_true, beq_iff_eq] at h
  obtain ⟨h1, h2, h3, h4⟩ := h
  obtain ⟨k, n, s, l⟩ := a
  obtain ⟨k', n', s', l'⟩ := b
  have e1 : k = k' := h1
  have e2 : n = n' := h2
  have e3 : s = s' := by
    have h3' : s.toList = s'.toList := h3
    rw [ByteArray.toList_eq, ByteArray.toList_eq] at h3'
    cases s; cases s'
    simp only [ByteArray.mk.injEq]
    exact Array.toList_inj.1 h3'
  have e4 : l = l' := lists l ih l' h4
  rw [e1, e2, e3, e4]
namespace Px
open Lx (Core)

/-! ### Tokens, and how they are read -/
theorem toks_cr {l : List UInt8} {ts : List Lx.Tk} (h : Lx.toks l = .good ts) : l.length ≤ 6000 ∧ Lx.cr l = some (ts.map Lx.Tk.core) := by
  unfold Lx.toks at h
  split at h
  · cases h
  · exact ⟨by omega, by unfold Lx.cr; rw [h]; rfl⟩
theorem cr_toks {l : List UInt8} {cs : List Core} (hl : l.length ≤ 6000) (h : Lx.cr l = some cs) : ∃ ts, Lx.toks l = .good ts ∧ ts.map Lx.Tk.core = cs := by
  unfold Lx.cr at h
  unfold Lx.toks
  rw [if_neg (by omega)]
  cases hr : Lx.run (l.length + 1) 0 l with
  | bad p => rw [hr] at h; cases h
  | good ts => rw [hr] at h; cases h; exact ⟨ts, rfl, rfl⟩
theorem one_ok {c : UInt8} {r : List UInt8} {k len n : Nat} (h : Lx.one (c :: r) = some (k, len, n)) : TokOk (k, (c :: r).take len, n) := by
  intro h2
  have h2 : k = 2 := h2
  subst h2
  rw [Lx.one_cons] at h
  split at h
  · split at h
    · simp at h
    · cases h
  · split at h
    · rename_i hd
      cases hn : Lx.num (c :: r.takeWhile Lx.digit) with
      | none => rw [hn] at h; cases h
      | some m =>
        rw [hn] at h
        simp at h
        obtain ⟨rfl, rfl⟩ := h
        rw [Lx.take_one]
        refine num_back (by simp) ?_ hn
        intro x hx
        rcases List.mem_cons.1 hx with rfl | hx
        · exact hd
        · exact Lx.takeWhile_all _ _ x hx
    · split at h
      · simp at h
      · split at h
        · simp at h
        · cases h
theorem run_ok (f : Nat) : ∀ (p : Nat) (l : List UInt8) (ts : List Lx.Tk), Lx.run f p l = .good ts → ∀ t ∈ ts.map Lx.Tk.core, TokOk t := by
  induction f with
  | zero => intro p l ts h; cases h
  | succ f ih =>
    intro p l ts h
    cases l with
    | nil =>
      simp [Lx.run] at h
      subst h
      intro t ht
      simp [Lx.Tk.core] at ht
      subst ht
      intro e; cases e
    | cons c r =>
      rw [Lx.run_cons] at h
      split at h
      · exact ih _ _ _ h
      · split at h
        · exact ih _ _ _ h
        · cases ho : Lx.one (c :: r) with
          | none => rw [ho] at h; cases h
          | some x =>
            obtain ⟨k, len, n⟩ := x
            rw [ho] at h
            simp only [] at h
            cases hr : Lx.run f (p + len) ((c :: r).drop len) with
            | bad q => rw [hr] at h; cases h
            | good us =>
              rw [hr] at h
              simp only [Lx.Out.pre, Lx.Out.good.injEq] at h
              subst h
              intro t ht
              simp only [List.map_append, List.map_cons, List.map_nil, List.mem_append, List.mem_singleton] at ht
              rcases ht with rfl | ht
              · exact one_ok ho
              · exact ih _ _ _ hr t ht
theorem toks_ok {l : List UInt8} {ts : List Lx.Tk} (h : Lx.toks l = .good ts) : ∀ t ∈ ts.map Lx.Tk.core, TokOk t := by
  unfold Lx.toks at h
  split at h
  · cases h
  · exact run_ok _ _ _ _ h
/-- What a reading of a text's tokens is. -/
theorem read_good {l : List UInt8} {ts : List Lx.Tk} (h : Lx.toks l = .good ts) {x : Ex} {m : List Core} (hr : read (ts.map Lx.Tk.core) = (some x, m)) : Wf x ∧ D x 1 ≤ 8 ∧ (T x 1).length + 1 + cost m ≤ cost (ts.map Lx.Tk.core) ∧ x.size ≤ 6001 := by
  obtain ⟨h1, h2, h3, h4, -⟩ := expr_yields (fac_yields 8) _ _ _ (toks_ok h) hr
  have := toks_count _ _ h
  rw [List.length_map] at h4
  exact ⟨h1, h2, h3, by omega⟩
theorem Wf.fit {x : Ex} (h : Wf x) : x.fit := by
  induction h with
  | num n hn => rw [Ex.fit_eq]; exact ⟨⟨by show _ ≤ (n : Int); omega, by show (n : Int) ≤ _; omega, by show (0 : Nat) ≤ 12; decide⟩, trivial⟩
  | name t ht =>
    rw [Ex.fit_eq]
    refine ⟨⟨by show _ ≤ (0 : Int); decide, by show (0 : Int) ≤ _; decide, ?_⟩, trivial⟩
    show (ba t).size ≤ 12
    unfold isNm at ht
    simp only [Bool.and_eq_true] at ht
    cases t with
    | nil => simp [ba, ByteArray.size]
    | cons c r =>
      have := ht.1
      simp only [Lx.isWord, Bool.and_eq_true, decide_eq_true_eq] at this
      simp [ba, ByteArray.size]; omega
  | minus y _ ih => rw [Ex.fit_eq]; exact ⟨⟨by show _ ≤ (0 : Int); decide, by show (0 : Int) ≤ _; decide, by show (0 : Nat) ≤ 12; decide⟩, by show Ex.fits [y]; rw [Ex.fits]; exact ⟨ih, trivial⟩⟩
  | bin k y z _ _ _ _ iy iz => rw [Ex.fit_eq]; exact ⟨⟨by show _ ≤ (0 : Int); decide, by show (0 : Int) ≤ _; decide, by show (0 : Nat) ≤ 12; decide⟩, by show Ex.fits [y, z]; rw [Ex.fits, Ex.fits]; exact ⟨iy, iz, trivial⟩⟩
theorem ok_end : Ok 1 [(4, [], 0)] := by
  intro of h1 h2
  match of, h1, h2 with
  | 1, _, _ => decide
  | 2, _, _ => decide
  | 3, _, _ => decide
theorem text_ne {x : Ex} (h : Wf x) (l : Nat) : T x l ≠ [] := by
  have : tb x ≠ [] := by
    cases h with
    | num n hn => rw [tb_num, Lib.itoa_nonneg]; exact (dec_facts n).1
    | name t ht => rw [tb_name]; rintro rfl; cases ht
    | minus y hy => rw [tb_minus]; simp
    | bin k y z h1 h2 hy hz => rw [tb_bin k y z h1]; simp
  unfold T tpw
  split
  · simp
  · exact this
/-- THE STAGE'S THEOREM, said plainly. -/
theorem written {x : Ex} (h : Wf x) (hd : D x 1 ≤ 8) (hl : (T x 1).length ≤ 6000) : wr x [] 1 = T x 1 ∧ print x = T x 1 ∧ ∃ ts, Lx.toks (T x 1) = .good ts ∧ ts.map Lx.Tk.core = C x 1 ++ [(4, [], 0)] ∧ read (ts.map Lx.Tk.core) = (some x, [(4, [], 0)]) := by
  have hw : wr x [] 1 = T x 1 := by rw [wr_text h [] 1 (by simpa using hl)]; rfl
  have hc := cr_T h 1 [] stop_nil
  rw [List.append_nil, Lx.cr_nil] at hc
  obtain ⟨ts, h1, h2⟩ := cr_toks hl hc
  have hr : read (ts.map Lx.Tk.core) = (some x, [(4, [], 0)]) := by
    rw [h2]
    exact expr_reads (fac_ctx 8) (fac_reads 8) x h hd _ ok_end
  refine ⟨hw, ?_, ts, h1, h2, hr⟩
  rw [print_if (by rw [hw]; exact h1) hr, if_pos ⟨rfl, Ex.same_refl x⟩, hw]
/-- Cut off, it is too long. -/
theorem wb_cut {x : Ex} (h : Wf x) : ∀ acc, wb x acc = acc ++ tb x ∨ 6000 < (wb x acc).length := by
  have wrap_ok : ∀ (y : Ex), (∀ acc, wb y acc = acc ++ tb y ∨ 6000 < (wb y acc).length) → ∀ acc l, wr y acc l = acc ++ T y l ∨ 6000 < (wr y acc l).length := by
    intro y ih acc l
    unfold wr wrap T tpw
    split
    · rename_i h6; right; exact h6
    · split
      · rcases ih (acc ++ [40]) with e | e
        · left; rw [e]; simp
        · right; simp; omega
      · exact ih acc
  induction h with
  | num n hn => intro acc; left; rw [tb_num]; exact wb_num ..
  | name t ht => intro acc; left; rw [tb_name]; unfold nameE; rw [wb_name]; simp [ba]
  | minus y _ ih =>
    intro acc
    rw [tb_minus]
    unfold minusE
    rw [wb_minus]
    rcases wrap_ok y ih (acc ++ [45]) 4 with e | e
    · left; rw [e]; simp
    · right; exact e
  | bin k y z h1 h2 _ _ iy iz =>
    intro acc
    rw [tb_bin k y z h1]
    unfold binE
    rw [wb_two _ _ _ _ _ _ (sgn_bin k h1 h2) (k12 h1).1 (k12 h1).2]
    rcases wrap_ok y iy acc (max (rnk k) 2) with e | e
    · rcases wrap_ok z iz (wr y acc (max (rnk k) 2) ++ [32] ++ sgn k ++ [32]) (rnk k + 1) with e2 | e2
      · left; rw [e2, e]; simp
      · right; exact e2
    · right
      have e3 : wr z (wr y acc (max (rnk k) 2) ++ [32] ++ sgn k ++ [32]) (rnk k + 1) = wr y acc (max (rnk k) 2) ++ [32] ++ sgn k ++ [32] := by
        unfold wr wrap
        rw [if_pos (by simp only [List.length_append, List.length_cons, List.length_nil]; unfold wr wrap at e; omega)]
      rw [e3]
      simp only [List.length_append, List.length_cons, List.length_nil]; omega
theorem wr_cut {x : Ex} (h : Wf x) (l : Nat) : wr x [] l = T x l ∨ 6000 < (wr x [] l).length := by
  unfold wr wrap T tpw
  split
  · rename_i h6; simp at h6
  · split
    · rcases wb_cut h ([] ++ [40]) with e | e
      · left; rw [e]; simp
      · right; simp only [List.length_append, List.length_cons, List.length_nil]; omega
    · rcases wb_cut h [] with e | e
      · left; rw [e]; rfl
      · right; exact e
/-- What is printed at all. -/
theorem print_form {x : Ex} (h : print x ≠ []) : Wf x ∧ D x 1 ≤ 8 ∧ print x = T x 1 ∧ (T x 1).length ≤ 6000 := by
  obtain ⟨e, ts, y, m, h1, h2, -, h4⟩ := print_some h
  obtain ⟨w, d, -, -⟩ := read_good h1 h2
  have hxy := Ex.same_iff y x h4
  subst hxy
  have hl := (toks_cr h1).1
  rcases wr_cut w 1 with c | c
  · rw [c] at hl
    exact ⟨w, d, by rw [e, c], hl⟩
  · omega

/-! ### Parentheses -/
theorem view_shut (r : List Core) : View [(4, [], 0)] ((3, [41], 0) :: r) := by
  intro of
  show opAt of (3, [41], 0) = none
  unfold opAt
  rw [if_pos rfl, List.find?_eq_none]
  intro k hk
  simp only [List.mem_cons, List.not_mem_nil, or_false] at hk
  rcases hk with rfl | rfl | rfl | rfl | rfl | rfl | rfl <;> simp <;> intro _ <;> decide
/-- What parentheses about it are read as, if they are. -/
theorem fac_paren {x : Ex} (h : Wf x) (hd : D x 1 ≤ 8) {r : List Core} {y : Ex} {n : List Core} (hy : fac 8 ((3, [40], 0) :: (C x 1 ++ (3, [41], 0) :: r)) = (some y, n)) : y = x ∧ n = r :=
  paren_same (expr_reads (fac_ctx 8) (fac_reads 8) x h hd _ ok_end) (C x 1) rfl (view_shut r) hy
end Px
#print axioms Px.print_form
#print axioms Px.fac_paren
end Go.Proofs.YtbjdnniklcmcbaaDoor
