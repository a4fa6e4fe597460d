/- LexPrefix answers true at whatever numbers and text, at whatever memory in which ErrRange holds an error. -/
import Derived.Test.YtfjeijjllgocdaaDoorTextW
import Derived.Test.YtfjeijjllgocdaaDoorKnown
import Derived.Test.YtfjeijjllgocdaaDoorWalksD
import Derived.Deep.QuietTactic
import Derived.BigQuiet
namespace Go.Proofs.YtfjeijjllgocdaaDoor
open Go.RowKit

theorem told_kept {s : ByteArray} {w0 w : World} {R : Lx.Out} {v p e : Value} (h : Told s w0 R v p e w) : Kept w0 w := by
  cases R with
  | bad q => exact h.2.2.2
  | good ts => exact h.2.2.2

theorem told_none {s : ByteArray} {w0 w : World} {q : Nat} {v p e : Value} (h : Told s w0 (.bad q) v p e w) : v = .slice none 0 0 ∧ p = .complex .f64 (lineW s q) (colW s q) ∧ e = .int .i64 2 ∧ Kept w0 w := h

theorem run_at (f : Nat) : ∀ (p : Nat) (l : List UInt8) (ts : List Lx.Tk), Lx.run f p l = .good ts → ∀ t ∈ ts, t.at' ≤ p + l.length := by
  induction f with
  | zero => intro p l ts h; cases h
  | succ f ih =>
    intro p l ts h
    cases l with
    | nil => simp [Lx.run] at h; subst h; intro t ht; simp at ht; subst ht; exact Nat.le_refl _
    | cons c r =>
      rw [Lx.run_cons] at h
      split at h
      · intro t ht; have := ih _ _ _ h t ht; simp; omega
      · split at h
        · intro t ht
          have hk : (r.takeWhile Lx.noFeed).length ≤ r.length := List.Sublist.length_le (List.takeWhile_sublist _)
          have := ih _ _ _ h t ht
          rw [List.length_drop] at this
          simp; omega
        · cases ho : Lx.one (c :: r) with
          | none => rw [ho] at h; cases h
          | some x =>
            obtain ⟨k, len, n⟩ := x
            have hl := Lx.one_len ho
            rw [ho] at h
            simp only [] at h
            cases hr : Lx.run f (p + len) ((c :: r).drop len) with
            | bad q => rw [hr] at h; cases h
            | good us =>
              rw [hr] at h
              simp only [Lx.Out.pre, Lx.Out.good.injEq] at h
              subst h
              intro t ht
              rcases List.mem_append.1 ht with ht | ht
              · rw [List.mem_singleton] at ht
                subst ht
                show p ≤ _
                omega
              · have := ih _ _ _ hr t ht
                rw [List.length_drop] at this
                omega

theorem toks_at (l : List UInt8) (ts : List Lx.Tk) (h : Lx.toks l = .good ts) : ∀ t ∈ ts, t.at' ≤ l.length := by
  unfold Lx.toks at h
  split at h
  · cases h
  · intro t ht; have := run_at _ _ _ _ h t ht; omega

theorem toks_ne (l : List UInt8) (ts : List Lx.Tk) (h : Lx.toks l = .good ts) : ts ≠ [] := by
  unfold Lx.toks at h
  split at h
  · cases h
  · exact Lx.run_ne _ _ _ _ h

theorem toks_len (l : List UInt8) (ts : List Lx.Tk) (h : Lx.toks l = .good ts) : l.length ≤ 6000 := by
  unfold Lx.toks at h
  split at h
  · cases h
  · omega

theorem fed_bytes (s t : ByteArray) : (s ++ ⟨#[10]⟩ ++ t).data.toList = s.data.toList ++ 10 :: t.data.toList := by
  rw [ByteArray.data_append, ByteArray.data_append, Array.toList_append, Array.toList_append, List.append_assoc]
  rfl

theorem fed_place (s t : ByteArray) (k : Nat) (hk : k ≤ s.size) : lineW (s ++ ⟨#[10]⟩ ++ t) k = lineW s k ∧ colW (s ++ ⟨#[10]⟩ ++ t) k = colW s k := by
  have hl : s.data.toList.length = s.size := by simp
  unfold lineW colW
  rw [fed_bytes, List.take_append_of_le_length (by omega)]
  exact ⟨rfl, rfl⟩

/-- The texts that the numbers make, in two calls. -/
structure Two (w : World) (v1 v2 : Value) (raw S T : ByteArray) : Prop where
  t1 : ∀ W, Kept w W → Calls Tryd.prog 13 #[v1, .string ⟨#[]⟩] W fun e w' => e = .returned (.string S) ∧ Kept W w'
  t2 : ∀ W, Kept w W → Calls Tryd.prog 13 #[v2, .string raw] W fun e w' => e = .returned (.string T) ∧ Kept W w'

set_option maxRecDepth 100000 in
set_option maxHeartbeats 1000000 in
theorem prefix_long (v1 v2 : Value) (raw S T : ByteArray) (w : World) (hT : Two w v1 v2 raw S T) (hE : Er w) (h1 : S.size ≤ 281474976710656) (h2 : T.size ≤ 281474976710656) (hlen : 6000 < S.size + T.size + 1) :
    Calls Tryd.prog 7 #[v1, v2, .string raw] w fun e w' => e = .returned (.bool true) ∧ Kept w w' := by
  have C1 : Hid (∀ W, Kept w W → _) := hT.t1
  have C2 : Hid (∀ W, Kept w W → _) := hT.t2
  have D1 : Hid (∀ W, Er W → _) := fun W hW => tokens_any S W (by omega) hW _ rfl
  have D2 : Hid (∀ W, Er W → _) := fun W hW => tokens_any T W (by omega) hW _ rfl
  have hsz : (S ++ ⟨#[10]⟩ ++ T).size = S.size + 1 + T.size := by rw [ByteArray.size_append, ByteArray.size_append]; rfl
  have D3 : Hid (∀ W, Er W → _) := fun W hW => tokens_any (S ++ ⟨#[10]⟩ ++ T) W (by omega) hW _ rfl
  have HE : Hid (Er w) := hE
  have hgt : decide ((6000 : Int) < (S.size : Int) + (T.size : Int) + 1) = true := decide_eq_true (by omega)
  clear hT hE hsz hlen
  go_enter Tryd.func7, Tryd.ntmps7
  go_wp2_with fail
  refine (C1.out _ (Kept.refl _)).mono ?_
  rintro e w1 ⟨rfl, k1⟩
  have K1 : Hid (Kept w w1) := k1
  clear k1
  go_wp2_with fail
  refine (C2.out _ K1.out).mono ?_
  rintro e w2 ⟨rfl, k2⟩
  have K2 : Hid (Kept w w2) := K1.out.then k2
  clear k2
  go_wp2_with fail
  refine (D1.out _ (HE.out.kept K2.out)).mono ?_
  rintro e w3 ⟨q1, q2, q3, rfl, ht⟩
  have K3 : Hid (Kept w w3) := K2.out.then (told_kept ht)
  clear ht
  go_wp2_with fail
  refine (D2.out _ (HE.out.kept K3.out)).mono ?_
  rintro e w4 ⟨q4, q5, q6, rfl, ht⟩
  have K4 : Hid (Kept w w4) := K3.out.then (told_kept ht)
  clear ht
  go_wp2_with fail
  refine (D3.out _ (HE.out.kept K4.out)).mono ?_
  rintro e w5 ⟨q7, q8, q9, rfl, ht⟩
  have K5 : Hid (Kept w w5) := K4.out.then (told_kept ht)
  clear ht
  go_wp2_with fail
  refine (known_any _ (HE.out.kept K5.out)).mono ?_
  rintro e w6 ⟨rfl, k6⟩
  have K6 : Hid (Kept w w6) := K5.out.then k6
  clear k6
  go_wp2
  go_ret
  exact ⟨rfl, K6.out⟩

end Go.Proofs.YtfjeijjllgocdaaDoor
