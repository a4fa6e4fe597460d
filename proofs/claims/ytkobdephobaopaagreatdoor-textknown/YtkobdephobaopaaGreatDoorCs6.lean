/- How much a text's tokens cost; of what a text of no more than 2999 bytes says no expression is too long: said plainly. No program, no condition. -/
import Derived.Test.YtkobdephobaopaaGreatDoorXB
namespace Go.Proofs.YtkobdephobaopaaGreatDoor
open Go.RowKit
namespace Px
theorem run_cost (f : Nat) : ∀ (p : Nat) (l : List UInt8) (ts : List Lx.Tk), Lx.run f p l = .good ts → cost (ts.map Lx.Tk.core) ≤ 2 * l.length + 1 := by
  induction f with
  | zero => intro p l ts h; cases h
  | succ f ih =>
    intro p l ts h
    cases l with
    | nil => simp [Lx.run] at h; subst h; simp [cost, Lx.Tk.core]
    | cons c r =>
      rw [Lx.run_cons] at h
      split at h
      · have := ih _ _ _ h; simp; omega
      · split at h
        · have := ih _ _ _ h
          rw [List.length_drop] at this
          simp; omega
        · cases ho : Lx.one (c :: r) with
          | none => rw [ho] at h; cases h
          | some x =>
            obtain ⟨k, len, n⟩ := x
            have hl := Lx.one_len ho
            rw [ho] at h
            simp only [] at h
            cases hr : Lx.run f (p + len) ((c :: r).drop len) with
            | bad q => rw [hr] at h; cases h
            | good us =>
              rw [hr] at h
              simp only [Lx.Out.pre, Lx.Out.good.injEq] at h
              subst h
              have := ih _ _ _ hr
              rw [List.length_drop] at this
              rw [List.map_append, List.map_singleton, List.singleton_append, cost_cons]
              have h2 : ((Lx.Tk.core ⟨k, p, (c :: r).take len, n⟩).2.1).length ≤ len := by
                show ((c :: r).take len).length ≤ len
                rw [List.length_take]; omega
              omega
theorem toks_cost (l : List UInt8) (ts : List Lx.Tk) (h : Lx.toks l = .good ts) : cost (ts.map Lx.Tk.core) ≤ 2 * l.length + 1 := by
  unfold Lx.toks at h
  split at h
  · cases h
  · exact run_cost _ _ _ _ h
end Px
namespace Ps.Pu
theorem out_said {s : ByteArray} {d : List Dc} {t : List (List St)} {q : Nat} (h : Pp.out s = (some (d, t), q)) (hl : s.size ≤ 2999) : Said 6000 d t := by
  unfold Pp.out at h
  split at h
  · cases h
  · rename_i ts hts
    have h1 := Px.toks_cost _ _ hts
    have h2 := Px.toks_count _ _ hts
    have h3 : s.data.toList.length = s.size := Array.length_toList
    have h4 := Px.run_count
    simp only [Prod.mk.injEq] at h
    cases hp : Pp.prog (plOf s ts) (ts.map Lx.Tk.core) with
    | mk o m =>
      rw [hp] at h
      have h0 : o = some (d, t) := h.1
      subst h0
      refine prog_yl (by omega) (Px.toks_ok hts) (by omega) ?_ hp
      rw [List.length_map]
      have hc : (ts.map Lx.Tk.core).length ≤ Px.cost (ts.map Lx.Tk.core) := by
        generalize ts.map Lx.Tk.core = l
        induction l with
        | nil => simp
        | cons a l ih => rw [Px.cost_cons, List.length_cons]; omega
      rw [List.length_map] at hc
      omega
theorem Said.wr {d : List Dc} {t : List (List St)} (h : Said 6000 d t) : WrP d t := wrp_of h.fine h.sh fun b hb => by have := h.sz b hb; omega
/-- What was read of such a text is printed as it is shown, or is too long. -/
theorem said_print {d : List Dc} {t : List (List St)} (h : Said 6000 d t) : ((shown d t).length ≤ 6000 ∧ printP d t = shown d t) ∨ (6000 < (shown d t).length ∧ printP d t = []) := by
  rcases Nat.lt_or_ge 6000 (shown d t).length with hl | hl
  · exact .inr ⟨hl, printP_none h.sh fun hh => by omega⟩
  · exact .inl ⟨hl, printP_good h.fine h.sh hl⟩
end Ps.Pu
#print axioms Ps.Pu.said_print
end Go.Proofs.YtkobdephobaopaaGreatDoor
