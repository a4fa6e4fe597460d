/- LexPrefix answers true at whatever numbers and text, at whatever memory in which ErrRange holds an error. -/
import Derived.Test.YtfjeijjllgocdaaDoorPrefixC
namespace Go.Proofs.YtfjeijjllgocdaaDoor
open Go.RowKit

theorem run_count (f : Nat) : ∀ (p : Nat) (l : List UInt8) (ts : List Lx.Tk), Lx.run f p l = .good ts → ts.length ≤ l.length + 1 := by
  induction f with
  | zero => intro p l ts h; cases h
  | succ f ih =>
    intro p l ts h
    cases l with
    | nil => simp [Lx.run] at h; subst h; simp
    | cons c r =>
      rw [Lx.run_cons] at h
      split at h
      · have := ih _ _ _ h; simp; omega
      · split at h
        · have := ih _ _ _ h
          rw [List.length_drop] at this
          simp; omega
        · cases ho : Lx.one (c :: r) with
          | none => rw [ho] at h; cases h
          | some x =>
            obtain ⟨k, len, n⟩ := x
            have hl := Lx.one_len ho
            rw [ho] at h
            simp only [] at h
            cases hr : Lx.run f (p + len) ((c :: r).drop len) with
            | bad q => rw [hr] at h; cases h
            | good us =>
              rw [hr] at h
              simp only [Lx.Out.pre, Lx.Out.good.injEq] at h
              subst h
              have := ih _ _ _ hr
              rw [List.length_drop] at this
              simp only [List.length_append, List.length_singleton]
              omega

theorem toks_count (l : List UInt8) (ts : List Lx.Tk) (h : Lx.toks l = .good ts) : ts.length ≤ 6001 := by
  unfold Lx.toks at h
  split at h
  · cases h
  · have := run_count _ _ _ _ h; omega

theorem lexPrefix_any (v1 v2 : Value) (l m : List Int) (raw : ByteArray) (w : World) (hl : l.length ≤ 17592186044416) (hm : m.length ≤ 17592186044416) (hraw : raw.size ≤ 140737488355328) (h1 : IntsAt w v1 l) (h2 : IntsAt w v2 m) (hE : Er w) :
    Calls Tryd.prog 7 #[v1, v2, .string raw] w fun e w' => e = .returned (.bool true) ∧ Kept w w' := by
  have hT : Two w v1 v2 raw (txt ⟨#[]⟩ l) (txt raw m) := ⟨fun W hW => text_any ⟨#[]⟩ v1 l hl (by decide) W (h1.kept hW), fun W hW => text_any raw v2 m hm (by omega) W (h2.kept hW)⟩
  have z1 := txt_size ⟨#[]⟩ l
  have z2 := txt_size raw m
  generalize txt ⟨#[]⟩ l = S at *
  generalize txt raw m = T at *
  by_cases hlen : 6000 < S.size + T.size + 1
  · exact prefix_long v1 v2 raw S T w hT hE (by omega) (by omega) hlen
  have l1 : S.data.toList.length = S.size := by simp
  have l2 : T.data.toList.length = T.size := by simp
  have e := Lx.toks_feed S.data.toList T.data.toList (by simp only [List.length_append, List.length_cons]; omega)
  rw [← fed_bytes] at e
  cases hR1 : Lx.toks S.data.toList with
  | bad p =>
    rw [hR1] at e
    exact prefix_first v1 v2 raw S T p p w hT hE (by omega) hR1 e
  | good ts =>
    cases hR2 : Lx.toks T.data.toList with
    | bad p =>
      rw [hR1, hR2] at e
      exact prefix_second v1 v2 raw S T ts p _ w hT hE (by omega) hR1 hR2 e
    | good us =>
      obtain ⟨cs, h3, hB⟩ := both_of S T ts us hR1 hR2 (by omega)
      exact prefix_good v1 v2 raw S T ts us cs w hT hE (by omega) hR1 hR2 h3 hB (toks_count _ _ hR1) (toks_count _ _ hR2)

theorem lexPrefix_row (v1 v2 : Value) (raw : ByteArray) (l m : List Int) (w : World) (hl : l.length ≤ 17592186044416) (hm : m.length ≤ 17592186044416) (hraw : raw.size ≤ 140737488355328) (h1 : IntsAt w v1 l) (h2 : IntsAt w v2 m) (hE : Er w) :
    Calls Tryd.prog 7 #[v1, v2, .string raw] w fun e w' => e = .returned (.bool true) ∧ Kept w w' := lexPrefix_any v1 v2 l m raw w hl hm hraw h1 h2 hE

end Go.Proofs.YtfjeijjllgocdaaDoor
