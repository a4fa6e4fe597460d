/- Bj -/
import Derived.Test.YtnfkjmafhaecgaaVBh
import Derived.Test.YtnfkjmafhaecgaaVSmA
import Derived.Test.YtnfkjmafhaecgaaVNp

namespace Go.Proofs.Ytnfkjmafhaecgaa
open Go.RowKit Bn
theorem ge_size {x : Ex} (h : Ps.GE x) : x.size ≤ 42 := Nat.le_trans (wf_small h.wf).1 (Nat.le_trans (tb_le_T x 1) h.len)
theorem gd_sn {e : Nat} {s : St} (h : Ps.Gd e s) : sn s ≤ 50 * 9 ^ e * s.size := by
  have L : ∀ (e : Nat) (l : List St), (∀ s ∈ l, sn s ≤ 50 * 9 ^ e * s.size) → sns l ≤ 50 * 9 ^ e * St.sizes l := by
    intro e l
    induction l with
    | nil => intro _; simp [sns]
    | cons a l ih =>
      intro h
      have h1 := h a (List.mem_cons_self ..)
      have h2 := ih fun s hs => h s (List.mem_cons_of_mem _ hs)
      rw [sns, St.sizes, Nat.mul_add]; omega
  have P : ∀ e : Nat, 1 ≤ 9 ^ e := fun e => Nat.one_le_pow _ _ (by decide)
  have one : ∀ (e m k : Nat), m ≤ 50 → m ≤ 50 * 9 ^ e * (1 + k) := fun e m k hm => by
    have := P e
    exact Nat.le_trans hm (Nat.le_trans (Nat.le_mul_of_pos_right 50 this) (Nat.le_mul_of_pos_right _ (by omega)))
  induction h with
  | assign e a x p q ha hx h1 =>
    rw [St.size_eq, sn_eq, if_pos (.inl rfl)]
    have h1 := en_size x
    have h2 := ge_size hx
    exact one _ _ _ (by show 1 + en x ≤ 50; omega)
  | word e k a p q hk ha h1 =>
    rw [St.size_eq, sn_eq]
    refine one _ _ _ ?_
    show (if k = 1 ∨ k = 4 ∨ k = 6 then 1 + en ex0 else _) ≤ 50
    rcases hk with rfl | rfl | rfl | rfl <;> simp [St.kind]
  | send e a x p q ha hx h1 =>
    rw [St.size_eq, sn_eq, if_pos (.inr (.inl rfl))]
    have h1 := en_size x
    have h2 := ge_size hx
    exact one _ _ _ (by show 1 + en x ≤ 50; omega)
  | recv e a b p q ha hb h1 h2 =>
    rw [St.size_eq, sn_eq]
    refine one _ _ _ ?_
    simp [St.kind]
  | print e x p q hx =>
    rw [St.size_eq, sn_eq, if_pos (.inr (.inr rfl))]
    have h1 := en_size x
    have h2 := ge_size hx
    exact one _ _ _ (by show 1 + en x ≤ 50; omega)
  | cond e x b c p q hx hb hc ib ic =>
    rw [St.size_eq, sn_eq, if_neg (by simp [St.kind]), if_neg (by simp [St.kind]), if_neg (by simp [St.kind]), if_pos (show (St.mk 7 Px.e0 Px.e0 0 x b c 0 0).kind = 7 from rfl)]
    have h1 := en_size x
    have h2 := ge_size hx
    have h3 := L e b ib
    have h4 := L e c ic
    have h5 := P e
    show 1 + en x + sns b + (if c.length = 0 then 0 else 1 + sns c) ≤ 50 * 9 ^ (e + 1) * (1 + (St.sizes b + St.sizes c))
    have h6 : (if c.length = 0 then 0 else 1 + sns c) ≤ 1 + sns c := by split <;> omega
    rw [Nat.pow_succ]
    generalize 9 ^ e = M at *
    have h7 : 50 * M * St.sizes b ≤ 50 * (M * 9) * St.sizes b := Nat.mul_le_mul_right _ (by omega)
    have h8 : 50 * M * St.sizes c ≤ 50 * (M * 9) * St.sizes c := Nat.mul_le_mul_right _ (by omega)
    rw [Nat.mul_add, Nat.mul_add]
    omega
  | rep e n b p q hn hb ib =>
    rw [St.size_eq, sn_eq, if_neg (by simp [St.kind]), if_neg (by simp [St.kind]), if_neg (by simp [St.kind]), if_neg (by simp [St.kind]), if_pos (show (St.mk 8 Px.e0 Px.e0 (n : Int) ex0 b [] 0 0).kind = 8 from rfl)]
    have h3 := L e b ib
    show (n : Int).toNat * sns b ≤ 50 * 9 ^ (e + 1) * (1 + (St.sizes b + St.sizes []))
    rw [Int.toNat_natCast, Nat.pow_succ]
    have h4 : n * sns b ≤ 9 * (50 * 9 ^ e * St.sizes b) := Nat.mul_le_mul hn h3
    have h5 : 9 * (50 * 9 ^ e * St.sizes b) = 50 * (9 ^ e * 9) * St.sizes b := by
      rw [← Nat.mul_assoc, Nat.mul_comm 9, Nat.mul_assoc 50]
    refine Nat.le_trans (Nat.le_trans h4 (Nat.le_of_eq h5)) (Nat.mul_le_mul_left _ ?_)
    omega
theorem oks_sns {l : List St} (h : OKs 2 l) (hs : St.sizes l ≤ 16) : sns l ≤ 64800 := by
  have : ∀ l : List St, OKs 2 l → sns l ≤ 4050 * St.sizes l := by
    intro l
    induction l with
    | nil => intro _; simp [sns]
    | cons a l ih =>
      intro h
      have h1 : sn a ≤ 4050 * a.size := gd_sn (h a (List.mem_cons_self ..))
      have h2 := ih fun s hs => h s (List.mem_cons_of_mem _ hs)
      rw [sns, St.sizes, Nat.mul_add]; omega
  have := this l h
  omega
theorem gd_num {e : Nat} {s : St} (h : Ps.Gd e s) : ∀ x ∈ St.flat s, NumS x := by
  have own : ∀ (k : Int) (a b : ByteArray) (n : Int) (x : Ex) (c d : List St), 0 ≤ n → n ≤ 9 → x.size ≤ 42 → NumS (.mk k a b n x c d 0 0) := fun k a b n x c d h1 h2 h3 => ⟨by show _ ≤ n; omega, by show n ≤ _; omega, by show x.size ≤ _; omega⟩
  have e0 : ex0.size ≤ 42 := by decide
  have nil : ∀ (s : St), s.body = [] → s.els = [] → NumS s → ∀ x ∈ St.flat s, NumS x := by
    intro s h1 h2 h3 x hx
    rw [St.flat_eq, h1, h2] at hx
    simp [St.flats] at hx
    rw [hx]; exact h3
  induction h with
  | assign e a x p q ha hx h1 => exact nil _ rfl rfl (own _ _ _ _ _ _ _ (by omega) (by omega) (ge_size hx))
  | word e k a p q hk ha h1 => exact nil _ rfl rfl (own _ _ _ _ _ _ _ (by omega) (by omega) e0)
  | send e a x p q ha hx h1 => exact nil _ rfl rfl (own _ _ _ _ _ _ _ (by omega) (by omega) (ge_size hx))
  | recv e a b p q ha hb h1 h2 => exact nil _ rfl rfl (own _ _ _ _ _ _ _ (by omega) (by omega) e0)
  | print e x p q hx => exact nil _ rfl rfl (own _ _ _ _ _ _ _ (by omega) (by omega) (ge_size hx))
  | cond e x b c p q hx hb hc ib ic =>
    intro y hy
    rw [St.flat_eq] at hy
    rcases List.mem_cons.1 hy with rfl | hy
    · exact own _ _ _ _ _ _ _ (by omega) (by omega) (ge_size hx)
    · rcases List.mem_append.1 hy with hy | hy
      · obtain ⟨z, hz, hy⟩ := mem_flats.1 hy
        exact ib z hz y hy
      · obtain ⟨z, hz, hy⟩ := mem_flats.1 hy
        exact ic z hz y hy
  | rep e n b p q hn hb ib =>
    intro y hy
    rw [St.flat_eq] at hy
    rcases List.mem_cons.1 hy with rfl | hy
    · exact own _ _ _ _ _ _ _ (by omega) (by omega) e0
    · rcases List.mem_append.1 hy with hy | hy
      · obtain ⟨z, hz, hy⟩ := mem_flats.1 hy
        exact ib z hz y hy
      · simp [St.els, St.flats] at hy
theorem oks_num {e : Nat} {l : List St} (h : OKs e l) : NumL l := fun x hx => by
  obtain ⟨z, hz, hx⟩ := mem_flats.1 hx
  exact gd_num (h z hz) x hx
end Go.Proofs.Ytnfkjmafhaecgaa
