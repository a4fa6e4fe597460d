/- Tokens of texts that are put together of words, signs and numbers with blanks and notes between: said plainly. No program, no condition. -/
import Derived.Test.YtfjeijjllgocdaaDoorLxCov
namespace Go.Proofs.YtfjeijjllgocdaaDoor
namespace Lx

def bparts : List (List UInt8) := [[120], [103, 111], [123], [125], [61], [61, 61], [40], [43], [45], [55], [48], [114, 101, 112, 101, 97, 116], [122, 57], [37], [60], [47]]
def bgaps : List (List UInt8) := [[10], [32, 9, 32], [32, 35, 32, 103, 111, 32, 120, 10], [10, 35, 10], [32, 32], [32]]

theorem gap_skip (g : List UInt8) (hg : g ∈ bgaps) (rest : List UInt8) : cr (g ++ rest) = cr rest := by
  simp only [bgaps, List.mem_cons, List.not_mem_nil, or_false] at hg
  rcases hg with rfl | rfl | rfl | rfl | rfl | rfl
  · exact cr_blank 10 rest (by decide)
  · show cr (32 :: 9 :: 32 :: rest) = _
    rw [cr_blank 32 _ (by decide), cr_blank 9 _ (by decide), cr_blank 32 _ (by decide)]
  · show cr (32 :: 35 :: 32 :: 103 :: 111 :: 32 :: 120 :: 10 :: rest) = _
    rw [cr_blank 32 _ (by decide), cr_note]
    show cr (10 :: rest) = _
    rw [cr_blank 10 _ (by decide)]
  · show cr (10 :: 35 :: 10 :: rest) = _
    rw [cr_blank 10 _ (by decide), cr_note]
    show cr (10 :: rest) = _
    rw [cr_blank 10 _ (by decide)]
  · show cr (32 :: 32 :: rest) = _
    rw [cr_blank 32 _ (by decide), cr_blank 32 _ (by decide)]
  · exact cr_blank 32 rest (by decide)

theorem gap_head (g : List UInt8) (hg : g ∈ bgaps) : ∃ b r, g = b :: r ∧ (b = 32 ∨ b = 10) := by
  simp only [bgaps, List.mem_cons, List.not_mem_nil, or_false] at hg
  rcases hg with rfl | rfl | rfl | rfl | rfl | rfl
  · exact ⟨_, _, rfl, .inr rfl⟩
  · exact ⟨_, _, rfl, .inl rfl⟩
  · exact ⟨_, _, rfl, .inl rfl⟩
  · exact ⟨_, _, rfl, .inr rfl⟩
  · exact ⟨_, _, rfl, .inl rfl⟩
  · exact ⟨_, _, rfl, .inl rfl⟩

/-- What token a part is. -/
def bkind (w : List UInt8) : Nat × Nat := match one w with | some (k, _, n) => (k, n) | none => (0, 0)

theorem part_one (w : List UInt8) (hw : w ∈ bparts) (b : UInt8) (hb : b = 32 ∨ b = 10) (rest : List UInt8) : ∃ c r, w = c :: r ∧ blank c = false ∧ c ≠ 35 ∧ one (c :: (r ++ b :: rest)) = some ((bkind w).1, w.length, (bkind w).2) := by
  simp only [bparts, List.mem_cons, List.not_mem_nil, or_false] at hw
  rcases hw with rfl | rfl | rfl | rfl | rfl | rfl | rfl | rfl | rfl | rfl | rfl | rfl | rfl | rfl | rfl | rfl
  all_goals
    refine ⟨_, _, rfl, by decide, by decide, ?_⟩
    rcases hb with rfl | rfl <;> rfl

theorem part_tok (w : List UInt8) (hw : w ∈ bparts) (b : UInt8) (hb : b = 32 ∨ b = 10) (rest : List UInt8) : cr (w ++ b :: rest) = (cr (b :: rest)).map fun ts => ((bkind w).1, w, (bkind w).2) :: ts := by
  obtain ⟨c, r, rfl, h1, h2, h3⟩ := part_one w hw b hb rest
  rw [List.cons_append, cr_one c _ h1 h2 h3, ← List.cons_append, List.drop_append_of_le_length (by simp), List.take_append_of_le_length (by simp)]
  simp

def bcore (w : List UInt8) : Core := ((bkind w).1, w, (bkind w).2)

theorem cr_plain (ps : List (List UInt8 × List UInt8)) (h : ∀ p ∈ ps, p.1 ∈ bparts) : cr (ps.flatMap fun p => p.1 ++ [32]) = some (ps.map (fun p => bcore p.1) ++ [(4, [], 0)]) := by
  induction ps with
  | nil => rfl
  | cons p ps ih =>
    have e : ((p :: ps).flatMap fun p => p.1 ++ [32]) = p.1 ++ 32 :: (ps.flatMap fun p => p.1 ++ [32]) := by simp
    rw [e, part_tok p.1 (h p (by simp)) 32 (.inl rfl), cr_blank 32 _ (by decide), ih fun q hq => h q (by simp [hq])]
    rfl

theorem cr_gaps (ps : List (List UInt8 × List UInt8)) (h : ∀ p ∈ ps, p.1 ∈ bparts ∧ p.2 ∈ bgaps) : cr (ps.flatMap fun p => p.2 ++ p.1 ++ p.2) = some (ps.map (fun p => bcore p.1) ++ [(4, [], 0)]) := by
  induction ps with
  | nil => rfl
  | cons p ps ih =>
    obtain ⟨h1, h2⟩ := h p (by simp)
    obtain ⟨b, r, hg, hb⟩ := gap_head p.2 h2
    have e : ((p :: ps).flatMap fun p => p.2 ++ p.1 ++ p.2) = p.2 ++ (p.1 ++ (p.2 ++ (ps.flatMap fun p => p.2 ++ p.1 ++ p.2))) := by simp
    rw [e, gap_skip p.2 h2]
    have e2 : p.2 ++ (ps.flatMap fun p => p.2 ++ p.1 ++ p.2) = b :: (r ++ (ps.flatMap fun p => p.2 ++ p.1 ++ p.2)) := by rw [hg]; rfl
    rw [e2, part_tok p.1 h1 b hb, ← e2, gap_skip p.2 h2, ih fun q hq => h q (by simp [hq])]
    rfl

theorem toks_core (l : List UInt8) (hl : l.length ≤ 6000) (cs : List Core) (h : cr l = some cs) : ∃ ts, toks l = .good ts ∧ ts.map Tk.core = cs := by
  have e : (toks l).core = cr l := by unfold toks cr; rw [if_neg (by omega)]
  rw [h] at e
  cases ht : toks l with
  | bad q => rw [ht] at e; cases e
  | good ts => rw [ht] at e; exact ⟨ts, rfl, Option.some.inj e⟩

end Lx
end Go.Proofs.YtfjeijjllgocdaaDoor
