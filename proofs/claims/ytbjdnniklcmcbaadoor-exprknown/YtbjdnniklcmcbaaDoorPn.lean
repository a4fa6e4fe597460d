/- What expr.Print and expr.Right answer. -/
import Derived.Test.YtbjdnniklcmcbaaDoorWu
import Derived.Test.YtbjdnniklcmcbaaDoorPq
import Derived.Lib.BufferRead
import Derived.Laws.IdiomStrings
namespace Go.Proofs.YtbjdnniklcmcbaaDoor
open Go.RowKit
attribute [local go_sem] run_store_complex

theorem Txt.conv {w : World} {B : Nat} {v : Value} {acc : List UInt8} (h : Txt w B v acc) : (convert 47 9 v).run Tryd.prog w = .ok (.string ⟨acc.toArray⟩) w := by
  obtain ⟨hl, ⟨rfl, h0⟩ | ⟨g, cap, cur, rfl, _, hh, _, _, _, ht⟩⟩ := h
  · have e : acc = [] := List.eq_nil_of_length_eq_zero h0
    subst e
    exact Lib.run_convert_nil_bytes w _ _ 5 0 Tryd.underlying47 Tryd.underlying5 Tryd.underlying9
  · rw [Nat.mul_one] at ht
    exact run_convert_bytes_back w _ _ 5 ⟨g, 0, none⟩ cap acc Tryd.underlying47 Tryd.underlying5 Tryd.underlying9 (Lib.bytes_of_row hh ht)

/-- What the program's own variables hold. -/
structure Env (w : World) : Prop where
  er : Er w
  pow : Pow w.heap.size w
theorem Env.kept {w w' : World} (h : Env w) (k : Kept w w') : Env w' := ⟨h.er.kept k, fun W hW => h.pow W (k.trans (hW.mono k.size))⟩

theorem read_fit : True := trivial

set_option maxRecDepth 100000 in
set_option maxHeartbeats 2000000 in
theorem print_any (x : Ex) (w : World) (ev : Value) (hx : ExsIn w 0 w.heap.size x.of ev) (hf : x.fit) (hsz : 24 * x.size ≤ 1000000000000) (hE : Env w) :
    Calls Tryd.prog 8 #[x.val ev] w fun e w' => e = .returned (.string (Px.ba (Px.print x))) ∧ Kept w w' := by
  obtain ⟨xa, xn, xq, rfl⟩ := hx.form
  obtain ⟨W0, hW0⟩ : ∃ W0, w.alloc (.cells #[.int .i64 x.kind, .int .i64 x.n, .string x.name, .slice xa xn xq] 25) = W0 := ⟨_, rfl⟩
  have hk0 : Kept w W0 := by rw [← hW0]; exact (Kept.refl _).al _
  have hs0 : W0.heap.size = w.heap.size + 1 := by rw [← hW0]; simp
  have hx0 : ExsIn W0 0 W0.heap.size x.of (.slice xa xn xq) := hx.up (Nat.le_refl _) hk0
  have HC : Hid (Calls Tryd.prog 17 #[.slice none 0 0, .agg #[.int .i64 x.kind, .int .i64 x.n, .string x.name, .slice xa xn xq], .int .i64 1] W0 fun e w' => Wrote W0.heap.size W0 (Px.wr x [] 1) e w') :=
    write_any x [] 1 W0.heap.size W0 _ _ (by omega) (Txt.nil _ _) hx0 (Nat.le_refl _) hf (by simpa using hsz) (hE.kept hk0).pow
  have hbx : Bx W0 w.heap.size x.kind x.n x.name (.slice xa xn xq) := by rw [← hW0]; exact Bx.new ..
  obtain ⟨p0, p1, p2, p3, pf⟩ := hbx
  have HBX : Hid (Bx W0 w.heap.size x.kind x.n x.name (.slice xa xn xq)) := ⟨p0, p1, p2, p3, pf⟩
  have HW0 : Hid _ := hW0
  have HK0 : Hid (Kept w W0) := hk0
  have HX : Hid (ExsIn w 0 w.heap.size x.of (.slice xa xn xq)) := hx
  have HEE : Hid (Env w) := hE
  have hlw : w.heap.size < W0.heap.size := by omega
  obtain ⟨t, ht⟩ : ∃ t, Px.wr x [] 1 = t := ⟨_, rfl⟩
  rw [ht] at HC
  have HLT : Hid (t.length ≤ 1000000000000) := by have := Px.wr_len x hf [] 1; rw [ht] at this; show _ ≤ _; simp at this; omega
  have HTT : Hid (Px.wr x [] 1 = t) := ht
  clear hk0 hx0 hx hf hsz hE hW0 ht hs0
  go_enter Tryd.func8, Tryd.ntmps8
  go_wp2_with fail
  rw [show _ = W0 from HW0.out]
  refine HC.out.mono ?_
  rintro e w1 ⟨a1, cap1, rfl, t1, k1⟩
  have hcv := t1.conv
  have HK1 : Hid (Kept W0 w1) := k1.bel
  clear t1 k1
  have TOK : Hid (∀ W, Kept w W → Calls Tryd.prog 15 #[.string ⟨t.toArray⟩] W fun e w' => ∃ v p q, e = .returned (.tuple #[v, p, q]) ∧ Told ⟨t.toArray⟩ W (Lx.toks t) v p q w') := fun W hW => tokens_any _ W (by have := HLT.out; simp [ByteArray.size]; omega) (HEE.out.er.kept hW) _ rfl
  go_wp2_with fail
  refine (TOK.out _ (HK0.out.then HK1.out)).mono ?_
  rintro e w2 ⟨v, pp, qq, rfl, htold⟩
  cases hto : Lx.toks t with
  | bad q =>
    rw [hto] at htold
    obtain ⟨rfl, rfl, rfl, hb⟩ := htold
    have HK2 : Hid (Kept w w2) := (HK0.out.then HK1.out).then hb
    have HPR : Hid (Px.print x = []) := Px.print_bad (by rw [HTT.out]; exact hto)
    clear hb hto
    go_wp2_with fail
    go_ret
    rw [HPR.out]
    exact ⟨rfl, HK2.out⟩
  | good ts =>
    rw [hto] at htold
    have hne : ts ≠ [] := Px.toks_ne _ _ hto
    obtain ⟨g, cap, rfl, rfl, rfl, hg0, hg1, hrow, hb⟩ := told_good htold hne
    have HK2 : Hid (Kept w w2) := (HK0.out.then HK1.out).then hb
    have hpos : 0 < ts.length := List.length_pos_iff.2 hne
    have hcnt := Px.toks_count _ _ hto
    have HTO : Hid (Lx.toks (Px.wr x [] 1) = .good ts) := by show _ = _; rw [HTT.out]; exact hto
    obtain ⟨o, m, hrd⟩ : ∃ o m, Px.read (ts.map Lx.Tk.core) = (o, m) := ⟨_, _, rfl⟩
    have HRD : Hid (Px.read (ts.map Lx.Tk.core) = (o, m)) := hrd
    have HROW : Hid (Row ⟨t.toArray⟩ ts g w2) := hrow
    have HG : Hid (g < w2.heap.size) := hg1
    have HB2 : Hid (Bx w2 w.heap.size x.kind x.n x.name (.slice xa xn xq)) := (HBX.out.kept HK1.out).kept hb
    have READ : Hid (Calls Tryd.prog 16 #[.slice (some ⟨g, 0, none⟩) ts.length cap, .int .i64 0] w2 fun e w' => Got w2 ts o m e w') := read_any hrow hg1 hpos hcnt o m hrd
    clear htold hb hto hne hrd hrow hg0 p0 p1 p2 p3 pf hcv
    go_wp2_with fail
    refine READ.out.mono ?_
    rintro e w3 ⟨y, b, p, ya, yn, yq, rfl, hy, hbb, hp, hT, hK3⟩
    have HK3 : Hid (Kept w w3) := HK2.out.then hK3
    obtain ⟨p0, p1, p2, p3, pf⟩ := HB2.out.kept hK3
    have hw3 : w.heap.size < w3.heap.size := block_lt_of_cell p0
    have HY : Hid (y = oe o ∧ p = ts.length - m.length ∧ ExsIn w3 w2.heap.size w3.heap.size y.of (.slice ya yn yq)) := ⟨hy, hp, hT⟩
    have HROW3 : Hid (Row ⟨t.toArray⟩ ts g w3 ∧ g < w3.heap.size) := ⟨⟨fun j hj => (hK3.cell (p := ⟨g, j, none⟩) HG.out).trans (HROW.out.cells j hj)⟩, Nat.lt_of_lt_of_le HG.out hK3.size⟩
    cases o with
    | none =>
      cases hbb
      have HPR : Hid (Px.print x = []) := Px.print_no HTO.out HRD.out
      clear hK3 hy hp hT
      go_wp2_with fail
      go_ret
      rw [HPR.out]
      exact ⟨rfl, HK3.out.al _⟩
    | some y' =>
      cases hbb
      have hy' : y = y' := hy
      subst hy'
      have hm : m ≠ [] := Px.read_left (l := Px.wr x [] 1) HTO.out HRD.out
      have hsuf : m <:+ left ts 0 := by have := Px.read_suf (ts.map Lx.Tk.core); rw [HRD.out] at this; exact this
      have hml := suf_len hsuf
      have hmp := List.length_pos_iff.2 hm
      have hplt : p < ts.length := by omega
      have hhd : Px.hd m = (ts[p].kind, ts[p].text, ts[p].n) := by
        have := suf_left hsuf
        rw [← hp] at this
        rw [← this]
        exact hd_in ts p hplt
      obtain ⟨c0, -⟩ := HROW3.out.1.at p hplt
      have hg3 := HROW3.out.2
      have hpi : (p : Int) < (ts.length : Int) := by omega
      have SM : Hid (∀ W, Kept w3 W → Calls Tryd.prog 18 #[y.val (.slice ya yn yq), x.val (.slice xa xn xq)] W fun e w' => e = .returned (.bool (y.same x)) ∧ Kept W w') := fun W hW => sameExpr_any y x W _ _ (hT.up (Nat.le_refl _) hW) (HX.out.up (Nat.le_refl _) (HK3.out.then hW))
      have HPR : Hid (Px.print x = if ts[p].kind = 4 ∧ y.same x = true then t else []) := by
        have := Px.print_if HTO.out HRD.out
        rw [hhd, HTT.out] at this
        exact this
      generalize ts[p].kind = kd at *
      clear hK3 hy hp hT hm hsuf hml hmp hplt hhd
      by_cases h4 : kd = 4
      · subst h4
        go_wp2_with fail
        refine (SM.out _ ((Kept.refl _).al _)).mono ?_
        rintro e w4 ⟨rfl, k4⟩
        have HK4 : Hid (Kept w w4) := (HK3.out.al _).then k4
        clear k4
        cases hsm : y.same x with
        | true =>
          have HPT : Hid (Px.print x = t) := by
            have := HPR.out
            rw [if_pos (by simp [hsm])] at this
            exact this
          go_wp2_with fail
          go_ret
          rw [HPT.out]
          exact ⟨rfl, HK4.out⟩
        | false =>
          have HPT : Hid (Px.print x = []) := by
            have := HPR.out
            rw [if_neg (by rw [hsm]; intro c; cases c.2)] at this
            exact this
          go_wp2_with fail
          go_ret
          rw [HPT.out]
          exact ⟨rfl, HK4.out⟩
      · have g4 : ((kd : Int) != 4) = true := by simp; omega
        have HPT : Hid (Px.print x = []) := by
          have := HPR.out
          rw [if_neg (by intro c; exact h4 c.1)] at this
          exact this
        go_wp2_with fail
        go_ret
        rw [HPT.out]
        exact ⟨rfl, HK3.out.al _⟩
#print axioms print_any

set_option maxRecDepth 100000 in
set_option maxHeartbeats 1000000 in
theorem right_any (x : Ex) (w : World) (ev : Value) (hx : ExsIn w 0 w.heap.size x.of ev) (hf : x.fit) (hsz : 24 * x.size ≤ 1000000000000) (hE : Env w) (b : Bool) (hb : (!(Px.print x).isEmpty) = b) :
    Calls Tryd.prog 10 #[x.val ev] w fun e w' => e = .returned (.bool b) ∧ Kept w w' := by
  obtain ⟨xa, xn, xq, rfl⟩ := hx.form
  have HC : Hid (∀ W, Kept w W → Calls Tryd.prog 8 #[x.val (.slice xa xn xq)] W fun e w' => e = .returned (.string (Px.ba (Px.print x))) ∧ Kept W w') := fun W hW => print_any x W _ (hx.up (Nat.le_refl _) hW) hf hsz (hE.kept hW)
  have HB : Hid ((!(Px.ba (Px.print x)).toList.isEmpty) = b) := by show _ = _; rw [toList_data]; simpa [Px.ba] using hb
  generalize Px.ba (Px.print x) = T at *
  clear hx hf hsz hE hb
  go_enter Tryd.func10, Tryd.ntmps10
  go_wp2_with fail
  refine (HC.out _ ((Kept.refl _).al _)).mono ?_
  rintro e w1 ⟨rfl, k1⟩
  have K1 : Hid (Kept w w1) := ((Kept.refl w).al _).then k1
  clear k1
  go_wp2_with fail
  go_ret
  exact ⟨ret_bool HB.out, K1.out⟩
#print axioms right_any
end Go.Proofs.YtbjdnniklcmcbaaDoor
