/- Sd Np Bj -/
import Derived.Test.YtnfkjmafhaecgaaZKpA
import Derived.Test.YtnfkjmafhaecgaaZBs
import Derived.BigQuiet
import Derived.Deep.QuietTactic
import Derived.Deep.RegionHeld3
import Derived.Test.YtnfkjmafhaecgaaZNh
import Derived.Deep.LoopGhost
import Derived.Test.YtnfkjmafhaecgaaZPo
import Derived.Test.YtnfkjmafhaecgaaZWD
import Derived.Test.YtnfkjmafhaecgaaZSf
import Derived.Test.YtnfkjmafhaecgaaZBh
import Derived.Test.YtnfkjmafhaecgaaZSmA

namespace Go.Proofs.Ytnfkjmafhaecgaa
open Go.RowKit
attribute [local go_sem] run_store_complex
/-- A place of numbers. -/
def okAt (x y : Nat) : Prop := (FloatKind.f64.format.order x x == some Ordering.eq) = true ∧ (FloatKind.f64.format.order y y == some Ordering.eq) = true
end Go.Proofs.Ytnfkjmafhaecgaa

namespace Go.Proofs.Ytnfkjmafhaecgaa
open Go.RowKit
theorem tb_le_T (x : Ex) (l : Nat) : (Px.tb x).length ≤ (Px.T x l).length := by
  unfold Px.T Px.tpw; split
  · simp; omega
  · exact Nat.le_refl _
theorem nDigits_pos (u : Nat) : 1 ≤ Lib.nDigits u := by
  rw [Lib.nDigits]
  split
  · exact Nat.le_refl _
  · exact Nat.le_add_left _ _
theorem itoa_pos' (n : Nat) : 1 ≤ (Lib.itoa n).length := by
  unfold Lib.itoa
  rw [if_neg (by omega), Lib.decDigits_length]
  exact nDigits_pos _
theorem wf_small {x : Ex} (h : Px.Wf x) : x.size ≤ (Px.tb x).length ∧ ∀ n ∈ x.names, n.size ≤ (Px.tb x).length := by
  induction h with
  | num n hn =>
    rw [Px.tb_num, Ex.size_eq, Ex.names_eq]
    refine ⟨?_, fun m hm => ?_⟩
    · show 1 + Ex.sizes [] ≤ _
      have := itoa_pos' n
      simpa [Ex.sizes] using this
    · simp [Px.numE, Ex.kind, Ex.of, Ex.namesL] at hm
  | name t ht =>
    have hne : 1 ≤ t.length := by cases t with | nil => cases ht | cons c r => simp
    rw [Px.tb_name, Ex.size_eq, Ex.names_eq]
    refine ⟨?_, fun m hm => ?_⟩
    · show 1 + Ex.sizes [] ≤ _
      simpa [Ex.sizes] using hne
    · simp [Px.nameE, Ex.kind, Ex.of, Ex.namesL, Ex.name] at hm
      rw [hm]; simp [Px.ba, ByteArray.size]
  | minus y hy ih =>
    have h1 := tb_le_T y 4
    rw [Px.tb_minus, Ex.size_eq, Ex.names_eq]
    refine ⟨?_, fun m hm => ?_⟩
    · show 1 + Ex.sizes [y] ≤ _
      simp [Ex.sizes]; omega
    · simp [Px.minusE, Ex.kind, Ex.of, Ex.namesL] at hm
      have := ih.2 m hm
      simp; omega
  | bin k y z h4 h10 hy hz ihy ihz =>
    have h1 := tb_le_T y (max (Px.rnk k) 2)
    have h2 := tb_le_T z (Px.rnk k + 1)
    rw [Px.tb_bin k y z h4, Ex.size_eq, Ex.names_eq]
    refine ⟨?_, fun m hm => ?_⟩
    · show 1 + Ex.sizes [y, z] ≤ _
      simp [Ex.sizes]; omega
    · have hk : ¬ ((k : Int) = 2) := by omega
      simp [Px.binE, Ex.kind, Ex.of, Ex.namesL, hk] at hm
      rcases hm with hm | hm
      · have := ihy.2 m hm; simp; omega
      · have := ihz.2 m hm; simp; omega
theorem mem_flats {x : St} : ∀ {l : List St}, x ∈ St.flats l ↔ ∃ s ∈ l, x ∈ St.flat s
  | [] => by simp [St.flats]
  | a :: l => by rw [St.flats, List.mem_append, mem_flats (l := l)]; simp
end Go.Proofs.Ytnfkjmafhaecgaa

namespace Go.Proofs.Ytnfkjmafhaecgaa
open Go.RowKit Bn
theorem ge_size {x : Ex} (h : Ps.GE x) : x.size ≤ 42 := Nat.le_trans (wf_small h.wf).1 (Nat.le_trans (tb_le_T x 1) h.len)
theorem gd_num {e : Nat} {s : St} (h : Ps.Gd e s) : ∀ x ∈ St.flat s, NumS x := by
  have own : ∀ (k : Int) (a b : ByteArray) (n : Int) (x : Ex) (c d : List St), 0 ≤ n → n ≤ 9 → x.size ≤ 42 → NumS (.mk k a b n x c d 0 0) := fun k a b n x c d h1 h2 h3 => ⟨by show _ ≤ n; omega, by show n ≤ _; omega, by show x.size ≤ _; omega⟩
  have e0 : ex0.size ≤ 42 := by decide
  have nil : ∀ (s : St), s.body = [] → s.els = [] → NumS s → ∀ x ∈ St.flat s, NumS x := by
    intro s h1 h2 h3 x hx
    rw [St.flat_eq, h1, h2] at hx
    simp [St.flats] at hx
    rw [hx]; exact h3
  induction h with
  | assign e a x p q ha hx h1 => exact nil _ rfl rfl (own _ _ _ _ _ _ _ (by omega) (by omega) (ge_size hx))
  | word e k a p q hk ha h1 => exact nil _ rfl rfl (own _ _ _ _ _ _ _ (by omega) (by omega) e0)
  | send e a x p q ha hx h1 => exact nil _ rfl rfl (own _ _ _ _ _ _ _ (by omega) (by omega) (ge_size hx))
  | recv e a b p q ha hb h1 h2 => exact nil _ rfl rfl (own _ _ _ _ _ _ _ (by omega) (by omega) e0)
  | print e x p q hx => exact nil _ rfl rfl (own _ _ _ _ _ _ _ (by omega) (by omega) (ge_size hx))
  | cond e x b c p q hx hb hc ib ic =>
    intro y hy
    rw [St.flat_eq] at hy
    rcases List.mem_cons.1 hy with rfl | hy
    · exact own _ _ _ _ _ _ _ (by omega) (by omega) (ge_size hx)
    · rcases List.mem_append.1 hy with hy | hy
      · obtain ⟨z, hz, hy⟩ := mem_flats.1 hy
        exact ib z hz y hy
      · obtain ⟨z, hz, hy⟩ := mem_flats.1 hy
        exact ic z hz y hy
  | rep e n b p q hn hb ib =>
    intro y hy
    rw [St.flat_eq] at hy
    rcases List.mem_cons.1 hy with rfl | hy
    · exact own _ _ _ _ _ _ _ (by omega) (by omega) e0
    · rcases List.mem_append.1 hy with hy | hy
      · obtain ⟨z, hz, hy⟩ := mem_flats.1 hy
        exact ib z hz y hy
      · simp [St.els, St.flats] at hy
theorem oks_num {e : Nat} {l : List St} (h : OKs e l) : NumL l := fun x hx => by
  obtain ⟨z, hz, hx⟩ := mem_flats.1 hx
  exact gd_num (h z hz) x hx
end Go.Proofs.Ytnfkjmafhaecgaa
