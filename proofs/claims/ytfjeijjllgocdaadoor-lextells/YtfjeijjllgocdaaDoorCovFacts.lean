/- What stands between tokens, byte by byte, as a loop goes over it: said plainly. No program, no condition. -/
import Derived.Test.YtfjeijjllgocdaaDoorLxCov
namespace Go.Proofs.YtfjeijjllgocdaaDoor
namespace Lx

theorem gap_append (a b : List UInt8) : ∀ note, gap note (a ++ b) = (gap note a).bind fun n => gap n b := by
  induction a with
  | nil => intro note; rfl
  | cons c a ih =>
    intro note
    show (if noted note c || blank c then gap (noted note c) (a ++ b) else none) = _
    by_cases h : (noted note c || blank c) = true
    · rw [if_pos h, ih]
      show _ = Option.bind (if noted note c || blank c then gap (noted note c) a else none) _
      rw [if_pos h]
    · rw [if_neg h]
      show _ = Option.bind (if noted note c || blank c then gap (noted note c) a else none) _
      rw [if_neg h]
      rfl

/-- One byte more of what stands between. -/
theorem gap_step (g : List UInt8) (j : Nat) (hj : j < g.length) (note b : Bool) (h : gap note g = some b) (n : Bool) (hn : gap note (g.take j) = some n) :
    (noted n g[j] || blank g[j]) = true ∧ gap note (g.take (j + 1)) = some (noted n g[j]) := by
  have e : g = g.take j ++ (g[j] :: g.drop (j + 1)) := by
    rw [← List.drop_eq_getElem_cons hj, List.take_append_drop]
  have h2 := h
  rw [e, gap_append, hn] at h2
  simp only [Option.bind_some] at h2
  have hc : (noted n g[j] || blank g[j]) = true := by
    cases hx : (noted n g[j] || blank g[j]) with
    | true => rfl
    | false =>
      have : gap n (g[j] :: g.drop (j + 1)) = if noted n g[j] || blank g[j] then gap (noted n g[j]) (g.drop (j + 1)) else none := rfl
      rw [this, hx] at h2
      cases h2
  refine ⟨hc, ?_⟩
  rw [List.take_succ_eq_append_getElem hj, gap_append, hn]
  show (if noted n g[j] || blank g[j] then gap (noted n g[j]) [] else none) = _
  rw [if_pos hc]
  rfl

/-- What the tokens from some byte on say of the first of them. -/
theorem Cov.head {p : Nat} {l : List UInt8} {t : Tk} {ts : List Tk} (h : Cov p l (t :: ts)) :
    ∃ g r b, l = g ++ t.text ++ r ∧ t.at' = p + g.length ∧ gap false g = some b ∧ (t.kind = 4 ↔ t.text = []) ∧ ((t.kind = 4 ∧ ts = [] ∧ r = []) ∨ (t.kind ≠ 4 ∧ b = false ∧ Cov (p + g.length + t.text.length) r ts)) := by
  cases h with
  | @done _ _ b h => exact ⟨l, [], b, by simp, rfl, h, ⟨fun _ => rfl, fun _ => rfl⟩, .inl ⟨rfl, rfl, rfl⟩⟩
  | @next _ g x r k n _ h hk hx hr => exact ⟨g, r, false, rfl, rfl, h, ⟨fun e => absurd e hk, fun e => absurd e hx⟩, .inr ⟨hk, rfl, hr⟩⟩

theorem Cov.ne {p : Nat} {l : List UInt8} {ts : List Tk} (h : Cov p l ts) : ts ≠ [] := by cases h <;> simp

/-- The last token is the end. -/
theorem Cov.last {p : Nat} {l : List UInt8} {ts : List Tk} (h : Cov p l ts) : ∃ hn : 0 < ts.length, (ts[ts.length - 1]'(by omega)).kind = 4 ∧ (ts[ts.length - 1]'(by omega)).at' = p + l.length := by
  induction h with
  | done h => exact ⟨by simp, rfl, rfl⟩
  | @next p g x r k n ts h hk hx hr ih =>
    obtain ⟨hn, h1, h2⟩ := ih
    refine ⟨by simp, ?_, ?_⟩
    · have e : ((⟨k, p + g.length, x, n⟩ :: ts)[(⟨k, p + g.length, x, n⟩ :: ts).length - 1]'(by simp)) = ts[ts.length - 1]'(by omega) := by
        simp only [List.length_cons, Nat.add_sub_cancel]
        rw [List.getElem_cons]
        rw [dif_neg (by omega)]
      rw [e]; exact h1
    · have e : ((⟨k, p + g.length, x, n⟩ :: ts)[(⟨k, p + g.length, x, n⟩ :: ts).length - 1]'(by simp)) = ts[ts.length - 1]'(by omega) := by
        simp only [List.length_cons, Nat.add_sub_cancel]
        rw [List.getElem_cons]
        rw [dif_neg (by omega)]
      rw [e, h2]; simp; omega

end Lx
end Go.Proofs.YtfjeijjllgocdaaDoor
