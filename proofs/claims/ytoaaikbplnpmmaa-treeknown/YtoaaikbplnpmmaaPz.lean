/- What the maker of programs answers. -/
import Derived.Test.YtoaaikbplnpmmaaPr
import Derived.Test.YtoaaikbplnpmmaaSm
namespace Go.Proofs.Ytoaaikbplnpmmaa
open Go.RowKit
theorem prog_any (how : Int) (la lb lc : List Ac) (va vb vc : Value) (most : Int) (w : World) (hh1 : -9223372036854775808 ≤ how) (hh2 : how ≤ 9223372036854775807) (ha : ActsR w w.heap.size la va) (hb : ActsR w w.heap.size lb vb) (hc : ActsR w w.heap.size lc vc) (hm1 : most ≤ 1000) (hm2 : -1000 ≤ most) :
    Calls Try.prog 14 #[.int .i64 how, va, vb, vc, .int .i64 most] w fun r w' => MadeP w most r w' :=
  prog_of (fun l W hi v most h1 h2 h3 h4 h5 => stmts_any 16 l W hi v most 1 h1 (Nat.le_refl _) h2 h3 h4 h5 (by omega) (by omega)) how la lb lc va vb vc most w hh1 hh2 ha hb hc hm1 hm2
#print axioms prog_any
/-- Bounds that the other contracts ask. -/
theorem GoodP.flat {d : List Dc} {t : List (List St)} {most : Int} (h : GoodP d t most) : (flatTs t).length ≤ 48 := by
  have key : ∀ (t : List (List St)), (∀ x ∈ t, St.sizes x ≤ 16) → (flatTs t).length ≤ 16 * t.length := by
    intro t
    induction t with
    | nil => intro _; simp [flatTs]
    | cons a t ih =>
      intro hx
      have h1 := hx a (List.mem_cons_self ..)
      have h2 := ih fun x h => hx x (List.mem_cons_of_mem _ h)
      rw [flatTs, List.length_append, St.flats_len, List.length_cons]; omega
  have := key t fun x hx => (h.ok x hx).2
  have := h.three
  omega
theorem GoodP.wts {d : List Dc} {t : List (List St)} {most : Int} (h : GoodP d t most) : ∀ x ∈ t, St.wts x ≤ 1073741824 := fun x hx => by
  have h1 := (h.ok x hx).1.wts
  have h2 := (h.ok x hx).2
  omega
/-- Each statement of it. -/
theorem mem_flatTs : ∀ (t : List (List St)) (x : St), x ∈ flatTs t → ∃ l ∈ t, x ∈ St.flats l
  | [], x, h => by simp [flatTs] at h
  | a :: t, x, h => by
    rw [flatTs, List.mem_append] at h
    rcases h with h | h
    · exact ⟨a, List.mem_cons_self .., h⟩
    · obtain ⟨l, h1, h2⟩ := mem_flatTs t x h
      exact ⟨l, List.mem_cons_of_mem _ h1, h2⟩
theorem GoodP.item {d : List Dc} {t : List (List St)} {most : Int} (h : GoodP d t most) (x : St) (hx : x ∈ flatTs t) : 1 ≤ x.kind ∧ x.e.size ≤ 7 := by
  obtain ⟨l, h1, h2⟩ := mem_flatTs t x hx
  exact (h.ok l h1).1 x h2
end Go.Proofs.Ytoaaikbplnpmmaa
