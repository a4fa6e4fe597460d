/- What the reference's one answers, of any byte of a text, at whatever memory. -/
import Derived.Test.YtfjeijjllgocdaaDoorRs
import Derived.Test.YtfjeijjllgocdaaDoorIsName
namespace Go.Proofs.YtfjeijjllgocdaaDoor
open Go.RowKit

theorem sign_in (c : UInt8) : Lx.signs.contains c = true ↔ ∃ i, ∃ hi : i < 11, (⟨#[61, 60, 43, 45, 42, 47, 37, 40, 41, 123, 125]⟩ : ByteArray)[i]'(by show i < 11; exact hi) = c := by
  constructor
  · intro h
    simp only [Lx.signs, List.contains_eq_mem, List.mem_cons, List.not_mem_nil, or_false, decide_eq_true_eq] at h
    rcases h with rfl | rfl | rfl | rfl | rfl | rfl | rfl | rfl | rfl | rfl | rfl
    · exact ⟨0, by decide, rfl⟩
    · exact ⟨1, by decide, rfl⟩
    · exact ⟨2, by decide, rfl⟩
    · exact ⟨3, by decide, rfl⟩
    · exact ⟨4, by decide, rfl⟩
    · exact ⟨5, by decide, rfl⟩
    · exact ⟨6, by decide, rfl⟩
    · exact ⟨7, by decide, rfl⟩
    · exact ⟨8, by decide, rfl⟩
    · exact ⟨9, by decide, rfl⟩
    · exact ⟨10, by decide, rfl⟩
  · rintro ⟨i, hi, rfl⟩
    match i, hi with
    | 0, _ => rfl
    | 1, _ => rfl
    | 2, _ => rfl
    | 3, _ => rfl
    | 4, _ => rfl
    | 5, _ => rfl
    | 6, _ => rfl
    | 7, _ => rfl
    | 8, _ => rfl
    | 9, _ => rfl
    | 10, _ => rfl

theorem hit_least (s : ByteArray) (k : Nat) (hk : k < s.size) (h : Lx.signs.contains s[k] = true) : ∃ n, ∃ hn : n < 11, (⟨#[61, 60, 43, 45, 42, 47, 37, 40, 41, 123, 125]⟩ : ByteArray)[n]'(by show n < 11; exact hn) = s[k] ∧ ∀ i (hi : i < 11), i < n → (⟨#[61, 60, 43, 45, 42, 47, 37, 40, 41, 123, 125]⟩ : ByteArray)[i]'(by show i < 11; exact hi) ≠ s[k] := by
  obtain ⟨j, hj, e⟩ := (sign_in s[k]).1 h
  obtain ⟨n, hn, hx, hlt⟩ := least (fun i => ∀ hi : i < 11, (⟨#[61, 60, 43, 45, 42, 47, 37, 40, 41, 123, 125]⟩ : ByteArray)[i]'(by show i < 11; exact hi) ≠ s[k]) 11 ⟨j, hj, fun h => h hj e⟩
  refine ⟨n, hn, ?_, fun i hi hin => hlt i hin hi⟩
  apply Classical.byContradiction
  intro hne
  exact hx fun _ => hne

/-- What one tells. -/
def OneIs (s : ByteArray) (k : Nat) (v l : Value) : Prop :=
  match Lx.one (s.data.toList.drop k) with
  | some (kd, len, n) => v = rtk s kd k (k + len) n ∧ l = .int .i64 (len : Int) ∧ 1 ≤ len ∧ k + len ≤ s.size
  | none => v = rzero ∧ l = .int .i64 0

theorem rone_any (s : ByteArray) (k : Nat) (w : World) (hs : s.size ≤ 6000) (hk : k < s.size) :
    Calls Tryd.prog 24 #[.string s, .int .i64 (k : Int)] w fun r w' => (∃ v l, r = .returned (.tuple #[v, l]) ∧ OneIs s k v l) ∧ Kept w w' := by
  have hll : s.data.toList.length = s.size := by simp
  unfold OneIs
  cases hl : Lx.lower s[k] with
  | true =>
    obtain ⟨e, he⟩ : ∃ e, Lx.span Lx.goes s.data.toList (k + 1) = e + 1 := ⟨Lx.span Lx.goes s.data.toList (k + 1) - 1, by have := Lx.le_span Lx.goes s.data.toList (k + 1); omega⟩
    have h1 := Lx.le_span Lx.goes s.data.toList (k + 1)
    have h2 := Lx.span_le Lx.goes s.data.toList (k + 1) (by omega)
    have ho := one_word hk hl (by omega : k ≤ e) he
    rw [ho]
    by_cases h12 : e + 1 - k ≤ 12
    · rw [if_pos h12]
      refine (rone_word s k e w hs hk hl (by omega) (by omega) he h12).mono fun r w' ⟨hr, hw⟩ => ⟨⟨_, _, hr, ?_⟩, hw⟩
      simp only []
      exact ⟨by rw [show k + (e + 1 - k) = e + 1 by omega], trivial, by omega, by omega⟩
    · rw [if_neg h12]
      exact (rone_long s k e w hs hk hl (by omega) (by omega) he (by omega)).mono fun r w' ⟨hr, hw⟩ => ⟨⟨_, _, hr, rfl, rfl⟩, hw⟩
  | false =>
    cases hd : Lx.digit s[k] with
    | true =>
      obtain ⟨e, he⟩ : ∃ e, Lx.span Lx.digit s.data.toList (k + 1) = e + 1 := ⟨Lx.span Lx.digit s.data.toList (k + 1) - 1, by have := Lx.le_span Lx.digit s.data.toList (k + 1); omega⟩
      have h1 := Lx.le_span Lx.digit s.data.toList (k + 1)
      have h2 := Lx.span_le Lx.digit s.data.toList (k + 1) (by omega)
      obtain ⟨o, ho⟩ : ∃ o, Lx.num (s.extract k (e + 1)).data.toList = o := ⟨_, rfl⟩
      have hone := one_number hk hl hd (by omega : k ≤ e) (by omega) he ho
      have dg := digits_of hk hd (by omega : k ≤ e) (by omega) he
      have hN := fun w => number_any (s.extract k (e + 1)) o dg.2.1 dg.2.2.1 (by have := dg.2.2.2; omega) ho w
      rw [hone]
      cases o with
      | some m =>
        refine (rone_num s k e w hs hk hl hd (by omega) (by omega) he m (fun w => (hN w).mono fun r w' ⟨⟨v, h1, h2⟩, h3⟩ => ⟨⟨v, h1, h2 m rfl⟩, h3⟩)).mono fun r w' ⟨hr, hw⟩ => ⟨⟨_, _, hr, ?_⟩, hw⟩
        simp only [Option.map_some]
        exact ⟨by rw [show k + (e + 1 - k) = e + 1 by omega], trivial, by omega, by omega⟩
      | none =>
        exact (rone_none s k e w hs hk hl hd (by omega) (by omega) he (fun w => (hN w).mono fun r w' ⟨⟨v, h1, _⟩, h3⟩ => ⟨⟨v, h1⟩, h3⟩)).mono fun r w' ⟨hr, hw⟩ => ⟨⟨_, _, hr, rfl, rfl⟩, hw⟩
    | false =>
      have hone : Lx.one (s.data.toList.drop k) = if s[k] = 61 ∧ (s.data.toList.drop (k + 1)).head? = some 61 then some (3, 2, 0) else if Lx.signs.contains s[k] then some (3, 1, 0) else none := by
        rw [Lx.drop_at _ k (by omega), Lx.one_cons, byte_at s k hk, if_neg (by rw [hl]; decide), if_neg (by rw [hd]; decide)]
      have hhead : ∀ h : k + 1 < s.size, (s.data.toList.drop (k + 1)).head? = some s[k + 1] := fun h => by
        rw [Lx.drop_at _ (k + 1) (by omega), byte_at s (k + 1) h]; rfl
      have hend : ¬ k + 1 < s.size → (s.data.toList.drop (k + 1)).head? = none := fun h => by
        rw [List.drop_of_length_le (by omega)]; rfl
      rw [hone]
      by_cases c2 : s[k] = 61 ∧ (s.data.toList.drop (k + 1)).head? = some 61
      · rw [if_pos c2]
        have hk1 : k + 1 < s.size := by
          apply Classical.byContradiction; intro h; rw [hend h] at c2; cases c2.2
        have h61 : s[k + 1] = 61 := by rw [hhead hk1] at c2; exact Option.some.inj c2.2
        exact (rone_two s k w hs hk1 c2.1 h61).mono fun r w' ⟨hr, hw⟩ => ⟨⟨_, _, hr, rfl, rfl, by omega, by omega⟩, hw⟩
      · rw [if_neg c2]
        have hne : s[k] ≠ 61 ∨ (s[k] = 61 ∧ ¬ k + 1 < s.size) ∨ (s[k] = 61 ∧ ∃ h : k + 1 < s.size, s[k + 1] ≠ 61) := by
          by_cases c : s[k] = 61
          · by_cases h : k + 1 < s.size
            · exact .inr (.inr ⟨c, h, fun e => c2 ⟨c, by rw [hhead h, e]⟩⟩)
            · exact .inr (.inl ⟨c, h⟩)
          · exact .inl c
        by_cases hc : Lx.signs.contains s[k] = true
        · rw [if_pos hc]
          obtain ⟨n, hn, hit, miss⟩ := hit_least s k hk hc
          exact (rone_hit s k w hs hk hl hd hne n hn hit miss).mono fun r w' ⟨hr, hw⟩ => ⟨⟨_, _, hr, rfl, rfl, by omega, by omega⟩, hw⟩
        · rw [if_neg hc]
          exact (rone_miss s k w hs hk hl hd hne fun i hi e => hc ((sign_in s[k]).2 ⟨i, hi, e⟩)).mono fun r w' ⟨hr, hw⟩ => ⟨⟨_, _, hr, rfl, rfl⟩, hw⟩

end Go.Proofs.YtfjeijjllgocdaaDoor
