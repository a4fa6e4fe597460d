/- LexBlanks answers true at whatever numbers, at whatever memory in which ErrRange holds an error. -/
import Derived.Test.YtfjeijjllgocdaaDoorBl2
namespace Go.Proofs.YtfjeijjllgocdaaDoor
open Go.RowKit

theorem nums_of {w : World} {v : Value} {l : List Int} (h : IntsAt w v l) : ∃ ao cap, v = .slice ao l.length cap ∧ Nums w ao l := by
  cases h with
  | none => exact ⟨Option.none, 0, rfl, ⟨fun k h => absurd h (Nat.not_lt_zero _)⟩⟩
  | @some a n cap _ hn hc _ _ _ =>
    subst hn
    exact ⟨Option.some a, cap, rfl, ⟨fun k h => ⟨a, rfl, hc k h⟩⟩⟩

theorem lexBlanks_row (v1 v2 : Value) (l gaps : List Int) (w : World) (hl : l.length ≤ 17592186044416) (hg : gaps.length ≤ 17592186044416) (h1 : IntsAt w v1 l) (h2 : IntsAt w v2 gaps) (hE : Er w) :
    Calls Tryd.prog 5 #[v1, v2] w fun e w' => e = .returned (.bool true) ∧ Kept w w' := by
  obtain ⟨a1, c1, rfl, n1⟩ := nums_of h1
  obtain ⟨a2, c2, rfl, n2⟩ := nums_of h2
  exact lexBlanks_any a1 a2 c1 c2 l gaps w hl hg n1 n2 hE

end Go.Proofs.YtfjeijjllgocdaaDoor
