/- Np -/
import Derived.Test.YtbfikeegacapjaaWNj
import Derived.Test.YtbfikeegacapjaaWSd
import Derived.Test.YtbfikeegacapjaaWSe

namespace Go.Proofs.Ytbfikeegacapjaa
open Go.RowKit
theorem tb_le_T (x : Ex) (l : Nat) : (Px.tb x).length ≤ (Px.T x l).length := by
  unfold Px.T Px.tpw; split
  · simp; omega
  · exact Nat.le_refl _
theorem nDigits_pos (u : Nat) : 1 ≤ Lib.nDigits u := by
  rw [Lib.nDigits]
  split
  · exact Nat.le_refl _
  · exact Nat.le_add_left _ _
theorem itoa_pos' (n : Nat) : 1 ≤ (Lib.itoa n).length := by
  unfold Lib.itoa
  rw [if_neg (by omega), Lib.decDigits_length]
  exact nDigits_pos _
theorem wf_small {x : Ex} (h : Px.Wf x) : x.size ≤ (Px.tb x).length ∧ ∀ n ∈ x.names, n.size ≤ (Px.tb x).length := by
  induction h with
  | num n hn =>
    rw [Px.tb_num, Ex.size_eq, Ex.names_eq]
    refine ⟨?_, fun m hm => ?_⟩
    · show 1 + Ex.sizes [] ≤ _
      have := itoa_pos' n
      simpa [Ex.sizes] using this
    · simp [Px.numE, Ex.kind, Ex.of, Ex.namesL] at hm
  | name t ht =>
    have hne : 1 ≤ t.length := by cases t with | nil => cases ht | cons c r => simp
    rw [Px.tb_name, Ex.size_eq, Ex.names_eq]
    refine ⟨?_, fun m hm => ?_⟩
    · show 1 + Ex.sizes [] ≤ _
      simpa [Ex.sizes] using hne
    · simp [Px.nameE, Ex.kind, Ex.of, Ex.namesL, Ex.name] at hm
      rw [hm]; simp [Px.ba, ByteArray.size]
  | minus y hy ih =>
    have h1 := tb_le_T y 4
    rw [Px.tb_minus, Ex.size_eq, Ex.names_eq]
    refine ⟨?_, fun m hm => ?_⟩
    · show 1 + Ex.sizes [y] ≤ _
      simp [Ex.sizes]; omega
    · simp [Px.minusE, Ex.kind, Ex.of, Ex.namesL] at hm
      have := ih.2 m hm
      simp; omega
  | bin k y z h4 h10 hy hz ihy ihz =>
    have h1 := tb_le_T y (max (Px.rnk k) 2)
    have h2 := tb_le_T z (Px.rnk k + 1)
    rw [Px.tb_bin k y z h4, Ex.size_eq, Ex.names_eq]
    refine ⟨?_, fun m hm => ?_⟩
    · show 1 + Ex.sizes [y, z] ≤ _
      simp [Ex.sizes]; omega
    · have hk : ¬ ((k : Int) = 2) := by omega
      simp [Px.binE, Ex.kind, Ex.of, Ex.namesL, hk] at hm
      rcases hm with hm | hm
      · have := ihy.2 m hm; simp; omega
      · have := ihz.2 m hm; simp; omega
theorem fit_of {s : St} (he : s.e.size ≤ 1000) (hn : ∀ x ∈ s.e.names, x.size ≤ 1000) (h1 : s.name.size ≤ 1000) (h2 : s.other.size ≤ 1000) : Fit s := by
  refine ⟨by omega, by unfold maxLen; omega, fun x hx => ?_⟩
  have : x.size ≤ 1000 := by
    unfold St.touches at hx
    split at hx
    · rcases List.mem_append.1 hx with hx | hx
      · exact hn x hx
      · rw [List.mem_singleton.1 hx]; exact h1
    · split at hx
      · exact hn x hx
      · split at hx
        · rw [List.mem_singleton.1 hx]; exact h2
        · cases hx
  unfold maxLen; omega
theorem mem_flats {x : St} : ∀ {l : List St}, x ∈ St.flats l ↔ ∃ s ∈ l, x ∈ St.flat s
  | [] => by simp [St.flats]
  | a :: l => by rw [St.flats, List.mem_append, mem_flats (l := l)]; simp
theorem ge_fit {x : Ex} (h : Ps.GE x) : x.size ≤ 1000 ∧ ∀ n ∈ x.names, n.size ≤ 1000 := by
  obtain ⟨h1, h2⟩ := wf_small h.wf
  have h3 := tb_le_T x 1
  have h4 := h.len
  exact ⟨by omega, fun n hn => by have := h2 n hn; omega⟩
theorem nm_fit {a : List UInt8} (h : Px.isNm a = true) : (Px.ba a).size ≤ 1000 := by have := Ps.nm_len h; simp [Px.ba, ByteArray.size]; omega
theorem ex0_fit : ex0.size ≤ 1000 ∧ ∀ n ∈ ex0.names, n.size ≤ 1000 := by
  constructor
  · decide +kernel
  · have : ex0.names = [] := by kernel_rfl
    rw [this]; simp
theorem e0_fit : Px.e0.size ≤ 1000 := by decide +kernel
theorem gd_fit {e : Nat} {s : St} (h : Ps.Gd e s) : ∀ x ∈ St.flat s, Fit x := by
  induction h with
  | assign e a x p q ha hx =>
    intro y hy
    rw [St.flat_eq] at hy
    simp [St.body, St.els, St.flats] at hy
    subst hy
    exact fit_of (ge_fit hx).1 (ge_fit hx).2 (nm_fit ha) e0_fit
  | word e k a p q hk ha =>
    intro y hy
    rw [St.flat_eq] at hy
    simp [St.body, St.els, St.flats] at hy
    subst hy
    exact fit_of ex0_fit.1 ex0_fit.2 (nm_fit ha) e0_fit
  | send e a x p q ha hx =>
    intro y hy
    rw [St.flat_eq] at hy
    simp [St.body, St.els, St.flats] at hy
    subst hy
    exact fit_of (ge_fit hx).1 (ge_fit hx).2 (nm_fit ha) e0_fit
  | recv e a b p q ha hb =>
    intro y hy
    rw [St.flat_eq] at hy
    simp [St.body, St.els, St.flats] at hy
    subst hy
    exact fit_of ex0_fit.1 ex0_fit.2 (nm_fit ha) (nm_fit hb)
  | print e x p q hx =>
    intro y hy
    rw [St.flat_eq] at hy
    simp [St.body, St.els, St.flats] at hy
    subst hy
    exact fit_of (ge_fit hx).1 (ge_fit hx).2 e0_fit e0_fit
  | cond e x b c p q hx hb hc ib ic =>
    intro y hy
    rw [St.flat_eq] at hy
    rcases List.mem_cons.1 hy with rfl | hy
    · exact fit_of (ge_fit hx).1 (ge_fit hx).2 e0_fit e0_fit
    · rcases List.mem_append.1 hy with hy | hy
      · obtain ⟨s, h1, h2⟩ := mem_flats.1 hy; exact ib s h1 y h2
      · obtain ⟨s, h1, h2⟩ := mem_flats.1 hy; exact ic s h1 y h2
  | rep e n b p q hn hb ib =>
    intro y hy
    rw [St.flat_eq] at hy
    rcases List.mem_cons.1 hy with rfl | hy
    · exact fit_of ex0_fit.1 ex0_fit.2 e0_fit e0_fit
    · rcases List.mem_append.1 hy with hy | hy
      · obtain ⟨s, h1, h2⟩ := mem_flats.1 hy; exact ib s h1 y h2
      · simp [St.els, St.flats] at hy
theorem strip_fit {s s' : St} (h : s.strip = s'.strip) (hf : Fit s) : Fit s' := by
  rw [St.strip_eq, St.strip_eq] at h
  injection h with h1 h2 h3 h4 h5 h6 h7
  have ht : s'.touches = s.touches := by unfold St.touches; rw [h1, h2, h3, h5]
  exact ⟨by rw [← h5]; exact hf.e, by rw [← h2]; exact hf.nm, by rw [ht]; exact hf.to⟩
theorem flats_strips_of : ∀ l : List St, (∀ x ∈ l, St.flat x.strip = (St.flat x).map St.strip) → St.flats (St.strips l) = (St.flats l).map St.strip
  | [], _ => rfl
  | a :: l, h => by
    rw [St.strips, St.flats, St.flats, List.map_append, h a (List.mem_cons_self ..), flats_strips_of l fun x hx => h x (List.mem_cons_of_mem _ hx)]
theorem strip_body (s : St) : s.strip.body = St.strips s.body ∧ s.strip.els = St.strips s.els := by rw [St.strip_eq]; exact ⟨rfl, rfl⟩
theorem fit_strips_of (l l' : List St) (h : St.strips l = St.strips l') (hf : ∀ x ∈ St.flats l, Fit x) : ∀ x ∈ St.flats l', Fit x := by
  intro x hx
  have h1 : (St.flats l).map St.strip = (St.flats l').map St.strip := by
    have e : ∀ m : List St, St.flats (St.strips m) = (St.flats m).map St.strip := fun m => flats_strips_of m fun y _ => St.ind (P := fun y => St.flat y.strip = (St.flat y).map St.strip) (fun s hb hl => by
      rw [St.flat_eq, St.flat_eq s, List.map_cons, List.map_append, (strip_body s).1, (strip_body s).2, flats_strips_of _ hb, flats_strips_of _ hl]) y
    rw [← e, ← e, h]
  have h2 : x.strip ∈ (St.flats l).map St.strip := by rw [h1]; exact List.mem_map_of_mem hx
  obtain ⟨y, hy, e⟩ := List.mem_map.1 h2
  exact strip_fit e (hf y hy)
theorem sizes_strips_of : ∀ l : List St, (∀ x ∈ l, x.strip.size = x.size) → St.sizes (St.strips l) = St.sizes l
  | [], _ => rfl
  | a :: l, h => by rw [St.strips, St.sizes, St.sizes, h a (List.mem_cons_self ..), sizes_strips_of l fun x hx => h x (List.mem_cons_of_mem _ hx)]
theorem sizes_strips (l : List St) : St.sizes (St.strips l) = St.sizes l := sizes_strips_of l fun y _ => St.ind (P := fun y => y.strip.size = y.size) (fun s hb hl => by
  rw [St.size_eq, St.size_eq s, (strip_body s).1, (strip_body s).2, sizes_strips_of _ hb, sizes_strips_of _ hl]) y
def Ones (s : St) : Prop := s.name.size ≤ 1 ∧ ∀ x ∈ s.touches, x.size ≤ 1
theorem ones_of {s : St} (hn : ∀ x ∈ s.e.names, x.size ≤ 1) (h1 : s.name.size ≤ 1) (h2 : s.other.size ≤ 1) : Ones s := by
  refine ⟨h1, fun x hx => ?_⟩
  unfold St.touches at hx
  split at hx
  · rcases List.mem_append.1 hx with hx | hx
    · exact hn x hx
    · rw [List.mem_singleton.1 hx]; exact h1
  · split at hx
    · exact hn x hx
    · split at hx
      · rw [List.mem_singleton.1 hx]; exact h2
      · cases hx
theorem ba_one {a : List UInt8} (h : a.length = 1) : (Px.ba a).size ≤ 1 := by simp [Px.ba, ByteArray.size]; omega
theorem e0_one : Px.e0.size ≤ 1 := by decide +kernel
theorem ex0_one : ∀ n ∈ ex0.names, n.size ≤ 1 := by
  have : ex0.names = [] := by kernel_rfl
  rw [this]; simp
theorem gd_one {e : Nat} {s : St} (h : Ps.Gd e s) : ∀ x ∈ St.flat s, Ones x := by
  induction h with
  | assign e a x p q ha hx h1 =>
    intro y hy
    rw [St.flat_eq] at hy
    simp [St.body, St.els, St.flats] at hy
    subst hy
    exact ones_of hx.one (ba_one h1) e0_one
  | word e k a p q hk ha h1 =>
    intro y hy
    rw [St.flat_eq] at hy
    simp [St.body, St.els, St.flats] at hy
    subst hy
    exact ones_of ex0_one (ba_one h1) e0_one
  | send e a x p q ha hx h1 =>
    intro y hy
    rw [St.flat_eq] at hy
    simp [St.body, St.els, St.flats] at hy
    subst hy
    exact ones_of hx.one (ba_one h1) e0_one
  | recv e a b p q ha hb h1 h2 =>
    intro y hy
    rw [St.flat_eq] at hy
    simp [St.body, St.els, St.flats] at hy
    subst hy
    exact ones_of ex0_one (ba_one h1) (ba_one h2)
  | print e x p q hx =>
    intro y hy
    rw [St.flat_eq] at hy
    simp [St.body, St.els, St.flats] at hy
    subst hy
    exact ones_of hx.one e0_one e0_one
  | cond e x b c p q hx hb hc ib ic =>
    intro y hy
    rw [St.flat_eq] at hy
    rcases List.mem_cons.1 hy with rfl | hy
    · exact ones_of hx.one e0_one e0_one
    · rcases List.mem_append.1 hy with hy | hy
      · obtain ⟨s, h1, h2⟩ := mem_flats.1 hy; exact ib s h1 y h2
      · obtain ⟨s, h1, h2⟩ := mem_flats.1 hy; exact ic s h1 y h2
  | rep e n b p q hn hb ib =>
    intro y hy
    rw [St.flat_eq] at hy
    rcases List.mem_cons.1 hy with rfl | hy
    · exact ones_of ex0_one e0_one e0_one
    · rcases List.mem_append.1 hy with hy | hy
      · obtain ⟨s, h1, h2⟩ := mem_flats.1 hy; exact ib s h1 y h2
      · simp [St.els, St.flats] at hy
theorem strip_ones {s s' : St} (h : s.strip = s'.strip) (hf : Ones s) : Ones s' := by
  rw [St.strip_eq, St.strip_eq] at h
  injection h with h1 h2 h3 h4 h5 h6 h7
  have ht : s'.touches = s.touches := by unfold St.touches; rw [h1, h2, h3, h5]
  exact ⟨by rw [← h2]; exact hf.1, by rw [ht]; exact hf.2⟩
theorem flats_strip_all (m : List St) : St.flats (St.strips m) = (St.flats m).map St.strip := flats_strips_of m fun y _ => St.ind (P := fun y => St.flat y.strip = (St.flat y).map St.strip) (fun s hb hl => by
  rw [St.flat_eq, St.flat_eq s, List.map_cons, List.map_append, (strip_body s).1, (strip_body s).2, flats_strips_of _ hb, flats_strips_of _ hl]) y
theorem ones_strips_of (l l' : List St) (h : St.strips l = St.strips l') (hf : ∀ x ∈ St.flats l, Ones x) : ∀ x ∈ St.flats l', Ones x := by
  intro x hx
  have h1 : (St.flats l).map St.strip = (St.flats l').map St.strip := by rw [← flats_strip_all, ← flats_strip_all, h]
  have h2 : x.strip ∈ (St.flats l).map St.strip := by rw [h1]; exact List.mem_map_of_mem hx
  obtain ⟨y, hy, e⟩ := List.mem_map.1 h2
  exact strip_ones e (hf y hy)
structure MadeR (d : List Dc) (t : List (List St)) : Prop where
  dl : d.length = 8
  tl : t ≠ []
  fd : ∀ y ∈ d, FitD y ∧ y.name.size ≤ 5
  ok : (∀ x ∈ d, okAt x.re x.im) ∧ ∀ b ∈ t, ∀ y ∈ b, OkS y
  ft : ∀ s ∈ flatTs t, Fit s
  sz : ∀ b ∈ t, St.sizes b ≤ 16
  one : ∀ s ∈ flatTs t, Ones s
theorem gdd_fit {x : Dc} (h : Ps.GdD x) : FitD x ∧ x.name.size ≤ 5 := by
  cases h with
  | plain k a p q h1 h5 ha hl => have := nm_fit ha; exact ⟨⟨by show (Px.ba a).size ≤ maxLen; unfold maxLen; omega, by show _ ≤ (k : Int); omega, by show (k : Int) ≤ _; omega⟩, Nat.le_trans (ba_one hl) (by decide)⟩
  | chan n a p q hn ha hl => have := nm_fit ha; exact ⟨⟨by show (Px.ba a).size ≤ maxLen; unfold maxLen; omega, by show _ ≤ (6 : Int); omega, by show (6 : Int) ≤ _; omega⟩, Nat.le_trans (ba_one hl) (by decide)⟩
theorem mader {d0 : List Dc} {t0 : List (List St)} (hl : d0.length = 8) (hd : ∀ x ∈ d0, Ps.GdD x) (ht0 : t0 ≠ []) (ht1 : t0.length ≤ 4) (hg : ∀ b ∈ t0, (∀ s ∈ b, Ps.Gd 2 s) ∧ St.sizes b ≤ 16) :
    ∃ d t q, Pp.out (Px.ba (Ps.shown d0 t0)) = (some (d, t), q) ∧ MadeR d t ∧ d.map Dc.strip = d0.map Dc.strip := by
  have hlen := Ps.shown_len (e := 2) (by decide) d0 t0 hd hg
  have hl6 : (Ps.shown d0 t0).length ≤ 6000 := by
    have h3 : 1159 * t0.length ≤ 1159 * 4 := Nat.mul_le_mul_left _ ht1
    omega
  obtain ⟨d, t, q, ho, s1, s2⟩ := Ps.out_shown (e := 2) (by decide) d0 t0 hl6 hd (fun b hb => (hg b hb).1) (by omega) ht0 ht1
  have hsz : (Px.ba (Ps.shown d0 t0)).size ≤ 1125899906842624 := by simp [Px.ba, ByteArray.size]; omega
  have hok := Pp.out_ok hsz ho
  have hdl : d.length = d0.length := Ps.len_of_map s1
  have htl : t.length = t0.length := Ps.len_of_map s2
  have hb : ∀ b ∈ t, ∃ b0 ∈ t0, St.strips b0 = St.strips b := by
    intro b hb
    have h1 : St.strips b ∈ t0.map St.strips := by rw [← s2]; exact List.mem_map_of_mem hb
    exact List.mem_map.1 h1
  refine ⟨d, t, q, ho, ⟨by omega, ?_, ?_, hok, ?_, ?_, ?_⟩, s1⟩
  · intro e; rw [e] at htl; exact ht0 (List.length_eq_zero_iff.1 htl.symm)
  · intro y hy
    have h1 : y.strip ∈ d0.map Dc.strip := by rw [← s1]; exact List.mem_map_of_mem hy
    obtain ⟨x, hx, e⟩ := List.mem_map.1 h1
    obtain ⟨⟨f1, f2, f3⟩, f4⟩ := gdd_fit (hd x hx)
    unfold Dc.strip at e
    injection e with e1 e2
    exact ⟨⟨by rw [← e2]; exact f1, by rw [← e1]; exact f2, by rw [← e1]; exact f3⟩, by rw [← e2]; exact f4⟩
  · intro s hs
    obtain ⟨b, h1, h2⟩ := mem_flatTs.1 hs
    obtain ⟨b0, h3, h4⟩ := hb b h1
    exact fit_strips_of b0 b h4 (fun x hx => by obtain ⟨y, h5, h6⟩ := mem_flats.1 hx; exact gd_fit ((hg b0 h3).1 y h5) x h6) s h2
  · intro b h1
    obtain ⟨b0, h3, h4⟩ := hb b h1
    have := (hg b0 h3).2
    rw [← sizes_strips] at this
    rw [← sizes_strips, ← h4]; exact this
  · intro s hs
    obtain ⟨b, h1, h2⟩ := mem_flatTs.1 hs
    obtain ⟨b0, h3, h4⟩ := hb b h1
    exact ones_strips_of b0 b h4 (fun x hx => by obtain ⟨y, h5, h6⟩ := mem_flats.1 hx; exact gd_one ((hg b0 h3).1 y h5) x h6) s h2
end Go.Proofs.Ytbfikeegacapjaa
