/- Np -/
import Derived.Test.YtnfkjmafhaecgaaTJq
import Derived.Deep.LoopGhost
import Derived.Test.YtnfkjmafhaecgaaTPo
import Derived.Test.YtnfkjmafhaecgaaTSe

namespace Go.Proofs.Ytnfkjmafhaecgaa
open Go.RowKit
theorem tb_le_T (x : Ex) (l : Nat) : (Px.tb x).length ≤ (Px.T x l).length := by
  unfold Px.T Px.tpw; split
  · simp; omega
  · exact Nat.le_refl _
theorem nDigits_pos (u : Nat) : 1 ≤ Lib.nDigits u := by
  rw [Lib.nDigits]
  split
  · exact Nat.le_refl _
  · exact Nat.le_add_left _ _
theorem itoa_pos' (n : Nat) : 1 ≤ (Lib.itoa n).length := by
  unfold Lib.itoa
  rw [if_neg (by omega), Lib.decDigits_length]
  exact nDigits_pos _
theorem wf_small {x : Ex} (h : Px.Wf x) : x.size ≤ (Px.tb x).length ∧ ∀ n ∈ x.names, n.size ≤ (Px.tb x).length := by
  induction h with
  | num n hn =>
    rw [Px.tb_num, Ex.size_eq, Ex.names_eq]
    refine ⟨?_, fun m hm => ?_⟩
    · show 1 + Ex.sizes [] ≤ _
      have := itoa_pos' n
      simpa [Ex.sizes] using this
    · simp [Px.numE, Ex.kind, Ex.of, Ex.namesL] at hm
  | name t ht =>
    have hne : 1 ≤ t.length := by cases t with | nil => cases ht | cons c r => simp
    rw [Px.tb_name, Ex.size_eq, Ex.names_eq]
    refine ⟨?_, fun m hm => ?_⟩
    · show 1 + Ex.sizes [] ≤ _
      simpa [Ex.sizes] using hne
    · simp [Px.nameE, Ex.kind, Ex.of, Ex.namesL, Ex.name] at hm
      rw [hm]; simp [Px.ba, ByteArray.size]
  | minus y hy ih =>
    have h1 := tb_le_T y 4
    rw [Px.tb_minus, Ex.size_eq, Ex.names_eq]
    refine ⟨?_, fun m hm => ?_⟩
    · show 1 + Ex.sizes [y] ≤ _
      simp [Ex.sizes]; omega
    · simp [Px.minusE, Ex.kind, Ex.of, Ex.namesL] at hm
      have := ih.2 m hm
      simp; omega
  | bin k y z h4 h10 hy hz ihy ihz =>
    have h1 := tb_le_T y (max (Px.rnk k) 2)
    have h2 := tb_le_T z (Px.rnk k + 1)
    rw [Px.tb_bin k y z h4, Ex.size_eq, Ex.names_eq]
    refine ⟨?_, fun m hm => ?_⟩
    · show 1 + Ex.sizes [y, z] ≤ _
      simp [Ex.sizes]; omega
    · have hk : ¬ ((k : Int) = 2) := by omega
      simp [Px.binE, Ex.kind, Ex.of, Ex.namesL, hk] at hm
      rcases hm with hm | hm
      · have := ihy.2 m hm; simp; omega
      · have := ihz.2 m hm; simp; omega
theorem fit_of {s : St} (he : s.e.size ≤ 1000) (hn : ∀ x ∈ s.e.names, x.size ≤ 1000) (h1 : s.name.size ≤ 1000) (h2 : s.other.size ≤ 1000) : Fit s := by
  refine ⟨by omega, by unfold maxLen; omega, fun x hx => ?_⟩
  have : x.size ≤ 1000 := by
    unfold St.touches at hx
    split at hx
    · rcases List.mem_append.1 hx with hx | hx
      · exact hn x hx
      · rw [List.mem_singleton.1 hx]; exact h1
    · split at hx
      · exact hn x hx
      · split at hx
        · rw [List.mem_singleton.1 hx]; exact h2
        · cases hx
  unfold maxLen; omega
theorem mem_flats {x : St} : ∀ {l : List St}, x ∈ St.flats l ↔ ∃ s ∈ l, x ∈ St.flat s
  | [] => by simp [St.flats]
  | a :: l => by rw [St.flats, List.mem_append, mem_flats (l := l)]; simp
theorem ge_fit {x : Ex} (h : Ps.GE x) : x.size ≤ 1000 ∧ ∀ n ∈ x.names, n.size ≤ 1000 := by
  obtain ⟨h1, h2⟩ := wf_small h.wf
  have h3 := tb_le_T x 1
  have h4 := h.len
  exact ⟨by omega, fun n hn => by have := h2 n hn; omega⟩
theorem nm_fit {a : List UInt8} (h : Px.isNm a = true) : (Px.ba a).size ≤ 1000 := by have := Ps.nm_len h; simp [Px.ba, ByteArray.size]; omega
theorem ex0_fit : ex0.size ≤ 1000 ∧ ∀ n ∈ ex0.names, n.size ≤ 1000 := by
  constructor
  · decide +kernel
  · have : ex0.names = [] := by kernel_rfl
    rw [this]; simp
theorem e0_fit : Px.e0.size ≤ 1000 := by decide +kernel
theorem gd_fit {e : Nat} {s : St} (h : Ps.Gd e s) : ∀ x ∈ St.flat s, Fit x := by
  induction h with
  | assign e a x p q ha hx =>
    intro y hy
    rw [St.flat_eq] at hy
    simp [St.body, St.els, St.flats] at hy
    subst hy
    exact fit_of (ge_fit hx).1 (ge_fit hx).2 (nm_fit ha) e0_fit
  | word e k a p q hk ha =>
    intro y hy
    rw [St.flat_eq] at hy
    simp [St.body, St.els, St.flats] at hy
    subst hy
    exact fit_of ex0_fit.1 ex0_fit.2 (nm_fit ha) e0_fit
  | send e a x p q ha hx =>
    intro y hy
    rw [St.flat_eq] at hy
    simp [St.body, St.els, St.flats] at hy
    subst hy
    exact fit_of (ge_fit hx).1 (ge_fit hx).2 (nm_fit ha) e0_fit
  | recv e a b p q ha hb =>
    intro y hy
    rw [St.flat_eq] at hy
    simp [St.body, St.els, St.flats] at hy
    subst hy
    exact fit_of ex0_fit.1 ex0_fit.2 (nm_fit ha) (nm_fit hb)
  | print e x p q hx =>
    intro y hy
    rw [St.flat_eq] at hy
    simp [St.body, St.els, St.flats] at hy
    subst hy
    exact fit_of (ge_fit hx).1 (ge_fit hx).2 e0_fit e0_fit
  | cond e x b c p q hx hb hc ib ic =>
    intro y hy
    rw [St.flat_eq] at hy
    rcases List.mem_cons.1 hy with rfl | hy
    · exact fit_of (ge_fit hx).1 (ge_fit hx).2 e0_fit e0_fit
    · rcases List.mem_append.1 hy with hy | hy
      · obtain ⟨s, h1, h2⟩ := mem_flats.1 hy; exact ib s h1 y h2
      · obtain ⟨s, h1, h2⟩ := mem_flats.1 hy; exact ic s h1 y h2
  | rep e n b p q hn hb ib =>
    intro y hy
    rw [St.flat_eq] at hy
    rcases List.mem_cons.1 hy with rfl | hy
    · exact fit_of ex0_fit.1 ex0_fit.2 e0_fit e0_fit
    · rcases List.mem_append.1 hy with hy | hy
      · obtain ⟨s, h1, h2⟩ := mem_flats.1 hy; exact ib s h1 y h2
      · simp [St.els, St.flats] at hy
end Go.Proofs.Ytnfkjmafhaecgaa
