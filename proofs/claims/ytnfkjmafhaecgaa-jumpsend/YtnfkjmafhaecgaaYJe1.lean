/- Je1 -/
import Derived.Test.YtnfkjmafhaecgaaYSn
import Derived.Test.YtnfkjmafhaecgaaYNp
import Derived.Test.YtnfkjmafhaecgaaYHdA

namespace Go.Proofs.Ytnfkjmafhaecgaa
open Go.RowKit
namespace Je
open Ps
open Lx (Core)
open Px (ba e0)
open Jf
def oneE : Ex := .mk 1 ((1 : Nat) : Int) ⟨#[]⟩ []
def gotoS (x : UInt8) : St := .mk 9 (ba [x]) e0 0 ex0 [] [] 0 0
def labS (x : UInt8) : St := .mk 10 (ba [x]) e0 0 ex0 [] [] 0 0
def ifS (b : List St) : St := .mk 7 e0 e0 0 oneE b [] 0 0
def ifC : List Core := [cw [105, 102], (2, [49], 1), co]
theorem itoa1 : Lib.itoa ((1 : Nat) : Int) = [49] := by kernel_rfl
theorem oneE_C : Px.C oneE 1 = [(2, [49], 1)] := by kernel_rfl
theorem ifS_cores (b : List St) : cores (ifS b) = ifC ++ (coress b ++ [cs]) := by
  show cw [105, 102] :: (Px.C oneE 1 ++ co :: (coress b ++ cs :: [])) = _
  rw [oneE_C]; rfl
theorem coress_append (l m : List St) : coress (l ++ m) = coress l ++ coress m := by
  induction l with
  | nil => rfl
  | cons a l ih => simp only [List.cons_append, coress, ih, List.append_assoc]
/-- The tokens of blocks that stand open. -/
def gc : List (List St) → List St → List Core
  | [], c => coress c
  | b :: r, c => gc r b ++ (ifC ++ coress c)
theorem gc_snoc (up : List (List St)) (c : List St) (s : St) : gc up (c ++ [s]) = gc up c ++ cores s := by
  cases up with
  | nil => simp [gc, coress_append, coress]
  | cons b r => simp [gc, coress_append, coress]
theorem gc_open (up : List (List St)) (c : List St) : gc (c :: up) [] = gc up c ++ ifC := by simp [gc, coress]
theorem gc_shut (up : List (List St)) (b c : List St) : gc up (b ++ [ifS c]) = gc (b :: up) c ++ [cs] := by rw [gc_snoc, ifS_cores, gc]; simp
/-- Gotos to three names, ifs. -/
def Gn (x : St) : Prop := (x.kind = 9 ∧ (x.name = ba [97] ∨ x.name = ba [98] ∨ x.name = ba [101])) ∨ x.kind = 7
def OkG (e : Nat) (s : St) : Prop := Gd e s ∧ ∀ x ∈ St.flat s, Gn x
def Okc (e : Nat) (c : List St) : Prop := ∀ s ∈ c, OkG e s
theorem Okc.nil (e : Nat) : Okc e [] := fun s hs => by cases hs
theorem Okc.snoc {e : Nat} {c : List St} (h : Okc e c) {s : St} (hs : OkG e s) : Okc e (c ++ [s]) := fun x hx => by
  rcases List.mem_append.1 hx with hx | hx
  · exact h x hx
  · obtain rfl : x = s := by simpa using hx
    exact hs
theorem goto_ok (e : Nat) (x : UInt8) (hx : x = 97 ∨ x = 98 ∨ x = 101) : OkG e (gotoS x) := by
  refine ⟨.word e 9 [x] 0 0 (.inr (.inr (.inl rfl))) (by rcases hx with rfl | rfl | rfl <;> decide) rfl, fun y hy => ?_⟩
  rw [St.flat_eq] at hy
  obtain rfl : y = gotoS x := by simpa [gotoS, St.body, St.els, St.flats] using hy
  exact .inl ⟨rfl, by rcases hx with rfl | rfl | rfl <;> simp [gotoS, St.name]⟩
theorem if_ok (e : Nat) {c : List St} (h : Okc e c) : OkG (e + 1) (ifS c) := by
  have hg : GE oneE := (Px.Sx.num 1 (by omega)).ge (by decide)
  refine ⟨.cond e oneE c [] 0 0 hg (fun s hs => (h s hs).1) (fun s hs => by cases hs), fun y hy => ?_⟩
  rw [St.flat_eq] at hy
  rcases List.mem_cons.1 hy with rfl | hy
  · exact .inr rfl
  · rcases List.mem_append.1 hy with hy | hy
    · obtain ⟨z, hz, hy⟩ := mem_flats.1 hy
      exact (h z hz).2 y hy
    · simp [ifS, St.els, St.flats] at hy
/-- The blocks around. -/
def Fr : List (List St) → Prop
  | [] => True
  | b :: r => Okc (6 - r.length) b ∧ Fr r
/-! ### The pieces -/
theorem goto_lex (x : UInt8) (hx : x = 97 ∨ x = 98 ∨ x = 101) : LexesS [32, 103, 111, 116, 111, 32, x] (cores (gotoS x)) := by
  have h1 : Lexes [103, 111, 116, 111, 32] [cw [103, 111, 116, 111]] := wordb (t := [103, 111, 116, 111]) (by decide)
  have h2 : LexesS [x] [cw [x]] := word_lex (by rcases hx with rfl | rfl | rfl <;> decide)
  exact (Lexes.blank (b := 32) (by decide) .nil).appS (h1.appS h2)
theorem if_lex : Lexes [32, 105, 102, 32, 49, 32, 123] ifC := by
  have h1 : Lexes [105, 102, 32] [cw [105, 102]] := wordb (t := [105, 102]) (by decide)
  have h2 : LexesS [49] [(2, [49], 1)] := by
    have h := num_lex (n := 1) (by omega)
    rwa [itoa1] at h
  have h3 : Lexes [32, 123] [co] := Lexes.blank (by decide) open_lex
  exact (Lexes.blank (b := 32) (by decide) .nil).app (h1.app (h2.app h3 fun r => stop_blank (by decide) [123] r))
def labB : List UInt8 := [32, 108, 97, 98, 101, 108, 32, 97, 32, 108, 97, 98, 101, 108, 32, 98, 32, 108, 97, 98, 101, 108, 32, 101, 125]
def labs : List St := [labS 97, labS 98, labS 101]
theorem lab_lex : Lexes labB (coress labs ++ [cs]) := by
  have w : Lexes [108, 97, 98, 101, 108, 32] [cw [108, 97, 98, 101, 108]] := wordb (t := [108, 97, 98, 101, 108]) (by decide)
  have b : Lexes [32] [] := Lexes.blank (by decide) .nil
  have h1 : Lexes [97, 32] [cw [97]] := wordb (t := [97]) (by decide)
  have h2 : Lexes [98, 32] [cw [98]] := wordb (t := [98]) (by decide)
  have h3 : LexesS [101] [cw [101]] := word_lex (by decide)
  have := b.app (w.app (h1.app (w.app (h2.app (w.app (h3.app shut_lex fun r => stop_blank (by decide) [] r))))))
  exact this
theorem start_lex : Lexes [103, 111, 123] [cw Pp.tGo, co] := by
  have h1 : LexesS [103, 111] [cw Pp.tGo] := word_lex (by decide)
  exact h1.app open_lex fun r => stop_blank (by decide) [] r
theorem labs_ok : ∀ s ∈ labs, Gd 6 s := by
  intro s hs
  have l : ∀ x : UInt8, x = 97 ∨ x = 98 ∨ x = 101 → Gd 6 (labS x) := fun x hx => .word 6 10 [x] 0 0 (.inr (.inr (.inr rfl))) (by rcases hx with rfl | rfl | rfl <;> decide) rfl
  simp only [labs, List.mem_cons, List.not_mem_nil, or_false] at hs
  rcases hs with rfl | rfl | rfl
  · exact l _ (.inl rfl)
  · exact l _ (.inr (.inl rfl))
  · exact l _ (.inr (.inr rfl))
/-- The whole text is read as what it was built of, but for the places. -/
theorem end_read {s : List UInt8} (hl : s.length ≤ 5900) {c : List St} (hc : Okc 6 c) (h : LexesS s (cw Pp.tGo :: co :: gc [] c)) :
    ∃ t' q, Pp.out (ba (s ++ labB)) = (some ([], t'), q) ∧ t'.map St.strips = [St.strips (c ++ labs)] := by
  have hw : Lexes (s ++ labB) ((cw Pp.tGo :: co :: gc [] c) ++ (coress labs ++ [cs])) := h.app lab_lex fun r => stop_blank (by decide) _ r
  have h1 := hw []
  rw [List.append_nil, Lx.cr_nil] at h1
  obtain ⟨d', t', q, e1, e2, e3⟩ := out_cr (e := 6) (by omega) (s := s ++ labB) (by rw [List.length_append]; show _ + 25 ≤ _; omega) [] [c ++ labs] (fun x hx => by cases hx) (fun b hb x hx => by
    obtain rfl : b = c ++ labs := by simpa using hb
    rcases List.mem_append.1 hx with hx | hx
    · exact (hc x hx).1
    · exact labs_ok x hx) (by simp) (by simp) (by simp) (by
    rw [h1]
    simp [dcoress, tcoress, tcores, gc, coress_append])
  obtain rfl : d' = [] := by simpa using e2
  exact ⟨t', q, e1, by simpa using e3⟩
/-! ### What is told of it -/
def z (x : Sp) : Sp := { x with re := 0, im := 0 }
theorem size_strip (s : St) : (St.strip s).size = s.size := by
  rw [St.strip_eq, St.size_eq, St.size_eq s]
  show 1 + (St.sizes (St.strips s.body) + St.sizes (St.strips s.els)) = _
  rw [sizes_strips, sizes_strips]
theorem spo_z (s : St) : ∀ f thr p, spo (St.strip s) f thr p = (spo s f thr p).map z := by
  have L : ∀ l : List St, (∀ x ∈ l, ∀ f thr p, spo (St.strip x) f thr p = (spo x f thr p).map z) → ∀ f thr p, spm (St.strips l) f thr p = (spm l f thr p).map z := by
    intro l
    induction l with
    | nil => intro _ f thr p; simp [St.strips, spm]
    | cons a l ih =>
      intro h f thr p
      rw [St.strips, spm, spm, List.map_append, h a (List.mem_cons_self ..), ih (fun x hx => h x (List.mem_cons_of_mem _ hx)), size_strip]
  refine St.ind (P := fun s => ∀ f thr p, spo (St.strip s) f thr p = (spo s f thr p).map z) (fun s hb hl f thr p => ?_) s
  rw [St.strip_eq, spo_eq, spo_eq]
  simp only [List.map_append]
  rw [← L s.body hb, ← L s.els hl]
  have e : St.sizes (St.mk s.kind s.name s.other s.n s.e (St.strips s.body) (St.strips s.els) 0 0).body = St.sizes s.body := sizes_strips s.body
  rw [e]
  have e2 : sph (St.mk s.kind s.name s.other s.n s.e (St.strips s.body) (St.strips s.els) 0 0) f thr p = (sph s f thr p).map z := by
    unfold sph
    show (if s.kind = 9 ∨ s.kind = 10 then _ else _) = _
    split <;> rfl
  rw [e2]
  rfl
theorem spm_z (l : List St) (f thr p : Nat) : spm (St.strips l) f thr p = (spm l f thr p).map z := by
  induction l generalizing p with
  | nil => simp [St.strips, spm]
  | cons a l ih => rw [St.strips, spm, spm, List.map_append, spo_z, ih, size_strip]
def kn (s : St) : Int × ByteArray := (s.kind, s.name)
theorem flat_kn (s : St) : (St.flat (St.strip s)).map kn = (St.flat s).map kn := by
  have L : ∀ l : List St, (∀ x ∈ l, (St.flat (St.strip x)).map kn = (St.flat x).map kn) → (St.flats (St.strips l)).map kn = (St.flats l).map kn := by
    intro l
    induction l with
    | nil => intro _; rfl
    | cons a l ih =>
      intro h
      rw [St.strips, St.flats, St.flats, List.map_append, List.map_append, h a (List.mem_cons_self ..), ih fun x hx => h x (List.mem_cons_of_mem _ hx)]
  refine St.ind (P := fun s => (St.flat (St.strip s)).map kn = (St.flat s).map kn) (fun s hb hl => ?_) s
  rw [St.strip_eq, St.flat_eq, St.flat_eq]
  simp only [List.map_cons, List.map_append]
  rw [← L s.body hb, ← L s.els hl]
  rfl
theorem flats_kn (l : List St) : (St.flats (St.strips l)).map kn = (St.flats l).map kn := by
  induction l with
  | nil => rfl
  | cons a l ih => rw [St.strips, St.flats, St.flats, List.map_append, List.map_append, flat_kn, ih]
theorem stgt_pos (s : Sp) : ∀ (r : List Sp), (∃ x ∈ r, x.lab = true ∧ x.name = s.name ∧ x.blk ≤ s.num) → 0 ≤ stgt s r
  | [], h => by obtain ⟨x, hx, _⟩ := h; cases hx
  | x :: r, h => by
    rw [stgt]
    split
    · omega
    · rename_i hn
      refine stgt_pos s r ?_
      obtain ⟨y, hy, h1⟩ := h
      rcases List.mem_cons.1 hy with rfl | hy
      · exact absurd h1 hn
      · exact ⟨y, hy, h1⟩
theorem flo_all : ∀ (l : List Sp) (k : Nat), (∀ pre s post, l = pre ++ s :: post → lost s post = false) → flo k l = k + l.length
  | [], k, _ => rfl
  | s :: r, k, h => by
    rw [flo, if_neg (by rw [h [] s r rfl]; simp), flo_all r (k + 1) fun pre x post e => h (s :: pre) x post (by rw [e]; rfl), List.length_cons]
    omega
theorem ftw_all : ∀ (l pre : List Sp), (∀ a s b, l = a ++ s :: b → twice (pre ++ a) s = false) → ftw pre l = pre.length + l.length
  | [], pre, _ => rfl
  | s :: r, pre, h => by
    rw [ftw, if_neg (by have := h [] s r rfl; rw [List.append_nil] at this; rw [this]; simp), ftw_all r (pre ++ [s]) fun a x b e => by
      have := h (s :: a) x b (by rw [e]; rfl)
      rwa [List.append_assoc]]
    simp only [List.length_append, List.length_cons, List.length_nil]; omega
theorem chk_none {l : List Sp} (h1 : ∀ pre s post, l = pre ++ s :: post → twice pre s = false) (h2 : ∀ pre s post, l = pre ++ s :: post → lost s post = false) : chk l = none := by
  unfold chk
  rw [flo_all l 0 h2, ftw_all l [] (by simpa using h1)]
  simp
theorem spm_gn {l : List St} (h : ∀ x ∈ St.flats l, Gn x) {f thr p : Nat} : ∀ y ∈ spm l f thr p, y.lab = false ∧ (y.name = ba [97] ∨ y.name = ba [98] ∨ y.name = ba [101]) := by
  intro y hy
  rw [← sps_many l [] f thr 0 p] at hy
  obtain ⟨a, ha, hs⟩ := List.mem_filterMap.1 hy
  have hm : a.s ∈ St.flats l := by
    rw [← many_s l [] f thr 0 p]
    exact List.mem_map.2 ⟨a, ha, rfl⟩
  unfold sp at hs
  split at hs
  · injection hs with hs
    subst hs
    rcases h _ hm with ⟨h9, hn⟩ | h7
    · exact ⟨by show (a.s.kind == 10) = false; rw [h9]; rfl, hn⟩
    · rename_i hk; omega
  · cases hs
theorem end_facts {t : List (List St)} {c : List St} (hc : Okc 6 c) (h : t.map St.strips = [St.strips (c ++ labs)]) :
    chk (spt t 0 0) = none ∧ ∃ N : Nat, (flatTs t).length = N + 3 ∧ ∀ (i : Nat) (hi : i < (flatTs t).length),
      ((flatTs t)[i].kind ≠ 9 ∧ starg (spt t 0 0) (i : Int) = -1) ∨ ((flatTs t)[i].kind = 9 ∧
        (((flatTs t)[i].name = ba [97] ∧ starg (spt t 0 0) (i : Int) = (N : Int)) ∨ ((flatTs t)[i].name = ba [98] ∧ starg (spt t 0 0) (i : Int) = ((N + 1 : Nat) : Int)) ∨ ((flatTs t)[i].name = ba [101] ∧ starg (spt t 0 0) (i : Int) = ((N + 2 : Nat) : Int)))) := by
  obtain ⟨b, rfl, hb⟩ : ∃ b, t = [b] ∧ St.strips b = St.strips (c ++ labs) := by
    cases t with
    | nil => cases h
    | cons b r =>
      injection h with h1 h2
      cases r with
      | nil => exact ⟨b, rfl, h1⟩
      | cons _ _ => cases h2
  have hcf : ∀ x ∈ St.flats c, Gn x := fun x hx => by
    obtain ⟨s, hs, hx⟩ := mem_flats.1 hx
    exact (hc s hs).2 x hx
  -- kinds and names
  have hk : (St.flats b).map kn = (St.flats c).map kn ++ [(10, ba [97]), (10, ba [98]), (10, ba [101])] := by
    rw [← flats_kn b, hb, flats_kn, St.flats_append, List.map_append]; rfl
  have hF : flatTs [b] = St.flats b := by simp [flatTs]
  have hlen : (St.flats b).length = (St.flats c).length + 3 := by
    have := congrArg List.length hk
    simpa using this
  -- what is told
  have hl : (spt [b] 0 0).map z = (spm c 0 0 0).map z ++ [⟨true, ba [97], St.sizes c, 0, 0, 0, 0⟩, ⟨true, ba [98], St.sizes c + 1, 0, 0, 0, 0⟩, ⟨true, ba [101], St.sizes c + 2, 0, 0, 0, 0⟩] := by
    have e : spt [b] 0 0 = spm b 0 0 0 := by simp [spt]
    rw [e, ← spm_z, hb, spm_z, spm_append, List.map_append, Nat.zero_add]
    rfl
  obtain ⟨g, e, hge, hg, he⟩ := List.map_eq_append_iff.1 hl
  have hgl : ∀ s ∈ g, s.lab = false ∧ (s.name = ba [97] ∨ s.name = ba [98] ∨ s.name = ba [101]) := by
    intro s hs
    have hm : z s ∈ (spm c 0 0 0).map z := by rw [← hg]; exact List.mem_map.2 ⟨s, hs, rfl⟩
    obtain ⟨y, hy, e1⟩ := List.mem_map.1 hm
    have h1 := spm_gn hcf y hy
    have l1 : (z y).lab = (z s).lab := by rw [e1]
    have l2 : (z y).name = (z s).name := by rw [e1]
    exact ⟨l1.symm.trans h1.1, by rw [show s.name = y.name from l2.symm]; exact h1.2⟩
  obtain ⟨x1, x2, x3, rfl, y1, y2, y3⟩ : ∃ x1 x2 x3, e = [x1, x2, x3] ∧ z x1 = ⟨true, ba [97], St.sizes c, 0, 0, 0, 0⟩ ∧ z x2 = ⟨true, ba [98], St.sizes c + 1, 0, 0, 0, 0⟩ ∧ z x3 = ⟨true, ba [101], St.sizes c + 2, 0, 0, 0, 0⟩ := by
    have hel : e.length = 3 := by simpa using congrArg List.length he
    match e, he, hel with
    | [x1, x2, x3], he, _ =>
      injection he with h1 he
      injection he with h2 he
      injection he with h3 _
      exact ⟨x1, x2, x3, rfl, h1, h2, h3⟩
  have a1 : x1.lab = true ∧ x1.name = ba [97] ∧ x1.blk = 0 := ⟨congrArg Sp.lab y1, congrArg Sp.name y1, congrArg Sp.blk y1⟩
  have a2 : x2.lab = true ∧ x2.name = ba [98] ∧ x2.blk = 0 := ⟨congrArg Sp.lab y2, congrArg Sp.name y2, congrArg Sp.blk y2⟩
  have a3 : x3.lab = true ∧ x3.name = ba [101] ∧ x3.blk = 0 := ⟨congrArg Sp.lab y3, congrArg Sp.name y3, congrArg Sp.blk y3⟩
  have n12 : ba [97] ≠ ba [98] := by decide
  have n13 : ba [97] ≠ ba [101] := by decide
  have n23 : ba [98] ≠ ba [101] := by decide
  have tw : ∀ (pre : List Sp) (s : Sp), (∀ x ∈ pre, ¬ (x.lab = true ∧ x.name = s.name)) → twice pre s = false := by
    intro pre s hp
    unfold twice
    rw [Bool.and_eq_false_iff]
    right
    rw [List.any_eq_false]
    intro x hx h2
    simp only [Bool.and_eq_true, decide_eq_true_eq] at h2
    exact hp x hx ⟨h2.1, h2.2.1⟩
  have hchk : chk (spt [b] 0 0) = none := by
    rw [hge]
    refine chk_none (fun pre s post es => ?_) (fun pre s post es => ?_)
    · cases hs : s.lab with
      | false => unfold twice; rw [hs]; rfl
      | true =>
        rcases List.append_eq_append_iff.1 es with ⟨a', h1, h2⟩ | ⟨c', h1, h2⟩
        · -- pre = g ++ a'
          subst h1
          refine tw _ _ fun x hx hx2 => ?_
          rcases List.mem_append.1 hx with hx | hx
          · rw [(hgl x hx).1] at hx2; cases hx2.1
          · match a', h2, hx with
            | [u], h2, hx =>
              injection h2 with h3 h2; injection h2 with h4 _
              obtain rfl : x = u := by simpa using hx
              rw [← h3, ← h4, a1.2.1, a2.2.1] at hx2
              exact n12 hx2.2
            | [u, v], h2, hx =>
              injection h2 with h3 h2; injection h2 with h4 h2; injection h2 with h5 _
              rcases List.mem_cons.1 hx with rfl | hx
              · rw [← h3, ← h5, a1.2.1, a3.2.1] at hx2
                exact n13 hx2.2
              · obtain rfl : x = v := by simpa using hx
                rw [← h4, ← h5, a2.2.1, a3.2.1] at hx2
                exact n23 hx2.2
            | u :: v :: q :: r, h2, hx =>
              injection h2 with h3 h2; injection h2 with h4 h2; injection h2 with h5 h2
              have := congrArg List.length h2
              simp at this
        · -- g = pre ++ c'
          cases c' with
          | nil =>
            rw [List.append_nil] at h1
            subst h1
            refine tw _ _ fun x hx hx2 => ?_
            rw [(hgl x hx).1] at hx2; cases hx2.1
          | cons u r =>
            injection h2 with h3 _
            have := (hgl u (by rw [h1]; simp)).1
            rw [← h3, hs] at this; cases this
    · cases hs : s.lab with
      | true => unfold lost; rw [hs]; rfl
      | false =>
        have hpost : s ∈ g ∧ x1 ∈ post ∧ x2 ∈ post ∧ x3 ∈ post := by
          rcases List.append_eq_append_iff.1 es with ⟨a', h1, h2⟩ | ⟨c', h1, h2⟩
          · have hm : s ∈ [x1, x2, x3] := by rw [h2]; simp
            rcases List.mem_cons.1 hm with rfl | hm
            · rw [a1.1] at hs; cases hs
            · rcases List.mem_cons.1 hm with rfl | hm
              · rw [a2.1] at hs; cases hs
              · obtain rfl : s = x3 := by simpa using hm
                rw [a3.1] at hs; cases hs
          · cases c' with
            | nil =>
              injection h2 with h3 _
              rw [h3, a1.1] at hs; cases hs
            | cons u r =>
              injection h2 with h3 h4
              subst h3
              exact ⟨by rw [h1]; simp, by rw [h4]; simp, by rw [h4]; simp, by rw [h4]; simp⟩
        have hp : 0 ≤ stgt s post := by
          refine stgt_pos s post ?_
          rcases (hgl s hpost.1).2 with hn | hn | hn
          · exact ⟨x1, hpost.2.1, a1.1, by rw [a1.2.1, hn], by rw [a1.2.2]; omega⟩
          · exact ⟨x2, hpost.2.2.1, a2.1, by rw [a2.2.1, hn], by rw [a2.2.2]; omega⟩
          · exact ⟨x3, hpost.2.2.2, a3.1, by rw [a3.2.1, hn], by rw [a3.2.2]; omega⟩
        unfold lost
        rw [hs, decide_eq_false (by omega)]; rfl
  refine ⟨hchk, (St.flats c).length, by rw [hF, hlen], fun i hi => ?_⟩
  have hal : (allA [b] 0 0 0).length = (flatTs [b]).length := by rw [all_len, tsz_flat]
  have hia : i < (allA [b] 0 0 0).length := by omega
  have hsi := s_at [b] i hia hi
  by_cases h9 : (flatTs [b])[i].kind = 9
  · refine .inr ⟨h9, ?_⟩
    have h0 := right_goes [b] hchk i hia (by rw [hsi]; exact h9)
    obtain ⟨j, hj, e1, _, _, h10, hnm, -⟩ := goes_to [b] i hia h0
    have hjf : j < (flatTs [b]).length := by omega
    have hsj := s_at [b] j hj hjf
    rw [hsj] at h10 hnm
    rw [hsi] at hnm
    have hjb : j < (St.flats b).length := by rw [← hF]; exact hjf
    have hkj : ((St.flats b).map kn)[j]? = some ((flatTs [b])[j].kind, (flatTs [b])[j].name) := by
      rw [List.getElem?_map, List.getElem?_eq_getElem hjb]
      simp only [hF]; rfl
    rw [hk] at hkj
    by_cases hjc : j < (St.flats c).length
    · rw [List.getElem?_append_left (by rw [List.length_map]; exact hjc), List.getElem?_map, List.getElem?_eq_getElem hjc] at hkj
      injection hkj with hkj
      have hkk : (St.flats c)[j].kind = (flatTs [b])[j].kind := congrArg Prod.fst hkj
      rcases hcf _ (List.getElem_mem hjc) with ⟨g9, _⟩ | g7
      · omega
      · omega
    · rw [hnm] at hkj
      obtain ⟨kd, hkd⟩ : ∃ kd, (flatTs [b])[j].kind = kd := ⟨_, rfl⟩
      rw [hkd] at hkj
      rw [e1]
      clear hsj hkd h10 hnm e1
      obtain ⟨q, hq⟩ : ∃ q, j = (St.flats c).length + q := ⟨j - (St.flats c).length, by omega⟩
      subst hq
      rw [List.getElem?_append_right (by rw [List.length_map]; omega), List.length_map, Nat.add_sub_cancel_left] at hkj
      have hq3 : q < 3 := by rw [hlen] at hjb; omega
      clear hj hjf hjb hjc
      match q, hq3, hkj with
      | 0, _, hkj =>
        injection hkj with hkj
        exact .inl ⟨(congrArg Prod.snd hkj).symm, rfl⟩
      | 1, _, hkj =>
        injection hkj with hkj
        exact .inr (.inl ⟨(congrArg Prod.snd hkj).symm, rfl⟩)
      | 2, _, hkj =>
        injection hkj with hkj
        exact .inr (.inr ⟨(congrArg Prod.snd hkj).symm, rfl⟩)
  · refine .inl ⟨h9, ?_⟩
    rw [starg_at [b] i hia, if_neg (by rw [hsi]; exact h9)]
end Je
end Go.Proofs.Ytnfkjmafhaecgaa
