/- What the statements' own 'text' makes of raw numbers: some text of at most eleven bytes a number, at whatever memory; the same at each call. -/
import Derived.Test.YtfjeijjllgocdaaDoorWalksA
namespace Go.Proofs.YtfjeijjllgocdaaDoor
open Go.RowKit

def parts : Array ByteArray := #[⟨#[120]⟩, ⟨#[121]⟩, ⟨#[103, 111]⟩, ⟨#[32]⟩, ⟨#[10]⟩, ⟨#[123]⟩, ⟨#[125]⟩, ⟨#[61]⟩, ⟨#[61, 61]⟩, ⟨#[40]⟩, ⟨#[41]⟩, ⟨#[43]⟩, ⟨#[45]⟩, ⟨#[42]⟩, ⟨#[47]⟩, ⟨#[37]⟩, ⟨#[60]⟩, ⟨#[55]⟩, ⟨#[48]⟩, ⟨#[49, 50]⟩,
  ⟨#[114, 101, 112, 101, 97, 116]⟩, ⟨#[35, 32, 110, 111, 116, 101, 32, 61, 32, 123, 10]⟩, ⟨#[9]⟩, ⟨#[103, 111, 116, 111]⟩, ⟨#[108, 97, 98, 101, 108]⟩, ⟨#[122, 57]⟩, ⟨#[108, 111, 99, 107]⟩, ⟨#[57]⟩, ⟨#[97]⟩, ⟨#[112, 114, 105, 110, 116]⟩]

/-- What a number adds. -/
def piece (raw : ByteArray) (n : Int) : ByteArray :=
  if n % 33 < 30 then parts.getD (n % 33).toNat ⟨#[]⟩ else raw.extract 0 (1 + n.tdiv 33 % 3).toNat
/-- The text of numbers. -/
def txt (raw : ByteArray) (l : List Int) : ByteArray := l.foldl (fun s n => s ++ piece raw n) ⟨#[]⟩

theorem txt_snoc (raw : ByteArray) (l : List Int) (n : Int) : txt raw (l ++ [n]) = txt raw l ++ piece raw n := by simp [txt]

theorem piece_size (raw : ByteArray) (n : Int) : (piece raw n).size ≤ 11 := by
  unfold piece
  split
  · have h : ∀ i : Nat, i < 30 → (parts.getD i ⟨#[]⟩).size ≤ 11 := by decide
    have h1 := Int.emod_nonneg n (by omega : (33 : Int) ≠ 0)
    exact h _ (by omega)
  · rw [ByteArray.size_extract]
    have h1 := Int.emod_nonneg (n.tdiv 33) (by omega : (3 : Int) ≠ 0)
    have h2 := Int.emod_lt_of_pos (n.tdiv 33) (by omega : (0 : Int) < 3)
    omega

theorem txt_size (raw : ByteArray) (l : List Int) : (txt raw l).size ≤ 11 * l.length := by
  suffices h : ∀ n (l : List Int), l.length = n → (txt raw l).size ≤ 11 * l.length from h _ l rfl
  intro n
  induction n with
  | zero => intro l hl; have : l = [] := List.length_eq_zero_iff.1 hl; subst this; exact Nat.le_refl _
  | succ n ih =>
    intro l hl
    have hne : l ≠ [] := by intro e; rw [e] at hl; simp at hl
    obtain ⟨m, c, rfl⟩ : ∃ m c, l = m ++ [c] := ⟨l.dropLast, l.getLast hne, (List.dropLast_concat_getLast hne).symm⟩
    have := ih m (by simp at hl; omega)
    have h2 := piece_size raw c
    rw [txt_snoc, ByteArray.size_append, List.length_append]
    simp only [List.length_singleton]
    omega

/-- A slice of numbers in memory. -/
structure Ints (w : World) (ao : Option Addr) (l : List Int) : Prop where
  nil : ao = none → l = []
  cells : ∀ a, ao = some a → ∀ j (h : j < l.length), w.cell? ⟨a.block, a.off + j, none⟩ = some (.int .i64 l[j])

end Go.Proofs.YtfjeijjllgocdaaDoor
