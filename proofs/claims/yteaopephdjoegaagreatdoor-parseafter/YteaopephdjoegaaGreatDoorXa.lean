/- ParseAfter: notes and blanks between lines change no more than the places; a word more at the end makes it none, there. -/
import Derived.Test.YteaopephdjoegaaGreatDoorPz
import Derived.Test.YteaopephdjoegaaGreatDoorSh
import Derived.Test.YteaopephdjoegaaGreatDoorLf
import Derived.Test.YteaopephdjoegaaGreatDoorR4
import Derived.Test.YteaopephdjoegaaGreatDoorKn5
namespace Go.Proofs.YteaopephdjoegaaGreatDoor
open Go.RowKit
attribute [local go_sem] run_store_complex
attribute [local go_sem ↓] add_fit

theorem acts_nil (w : World) (hi : Nat) : ActsR w hi [] (.slice none 0 0) := ⟨none, 0, rfl, Nat.le_refl _, by omega, fun i hi => by simp at hi, fun x hx => by cases hx⟩

theorem index_gap (k : Nat) (hk : k < 4) : ∀ w, (Instr.index 48 (.agg #[.string ⟨#[]⟩, .string ⟨#[10]⟩, .string ⟨#[35, 32, 103, 111, 32, 123, 10]⟩, .string ⟨#[9, 32, 10, 35, 10]⟩]) (.int .i64 (k : Int))).run Tryz.prog w = .ok (.string (Px.ba (Ps.gapOf k))) w := by
  have h9 := Tryz.sizeOf9
  have ha := Tryz.isAgg9
  match k, hk with
  | 0, _ => exact fun w => by simp [Instr.index, go_sem, h9, ha, Ps.gapOf, Px.ba]
  | 1, _ => exact fun w => by simp [Instr.index, go_sem, h9, ha, Ps.gapOf, Px.ba]
  | 2, _ => exact fun w => by simp [Instr.index, go_sem, h9, ha, Ps.gapOf, Px.ba]
  | 3, _ => exact fun w => by simp [Instr.index, go_sem, h9, ha, Ps.gapOf, Px.ba]
/-- A word more. -/
def wordOf (k : Nat) : List UInt8 := if k = 0 then [120] else if k = 1 then [125] else if k = 2 then [118, 97, 114] else if k = 3 then [55] else [108, 111, 99, 107]
theorem index_word (k : Nat) (hk : k < 5) : ∀ w, (Instr.index 50 (.agg #[.string ⟨#[120]⟩, .string ⟨#[125]⟩, .string ⟨#[118, 97, 114]⟩, .string ⟨#[55]⟩, .string ⟨#[108, 111, 99, 107]⟩]) (.int .i64 (k : Int))).run Tryz.prog w = .ok (.string (Px.ba (wordOf k))) w := by
  have h9 := Tryz.sizeOf9
  have ha := Tryz.isAgg9
  match k, hk with
  | 0, _ => exact fun w => by simp [Instr.index, go_sem, h9, ha, wordOf, Px.ba]
  | 1, _ => exact fun w => by simp [Instr.index, go_sem, h9, ha, wordOf, Px.ba]
  | 2, _ => exact fun w => by simp [Instr.index, go_sem, h9, ha, wordOf, Px.ba]
  | 3, _ => exact fun w => by simp [Instr.index, go_sem, h9, ha, wordOf, Px.ba]
  | 4, _ => exact fun w => by simp [Instr.index, go_sem, h9, ha, wordOf, Px.ba]
theorem word_tok (k : Nat) (hk : k < 5) : ∃ kd n, Lx.toks (wordOf k) = .good [⟨kd, 0, wordOf k, n⟩, ⟨4, (wordOf k).length, [], 0⟩] ∧ kd ≠ 4 ∧ wordOf k ≠ Pp.tGo ∧ (wordOf k).length ≤ 4 := by
  match k, hk with
  | 0, _ => exact ⟨1, 0, by decide +kernel, by decide, by decide, by decide⟩
  | 1, _ => exact ⟨3, 0, by decide +kernel, by decide, by decide, by decide⟩
  | 2, _ => exact ⟨1, 0, by decide +kernel, by decide, by decide, by decide⟩
  | 3, _ => exact ⟨2, 7, by decide +kernel, by decide, by decide, by decide⟩
  | 4, _ => exact ⟨1, 0, by decide +kernel, by decide, by decide, by decide⟩

theorem shown_ends (d : List Dc) (t : List (List St)) (h : t ≠ []) : ∃ a, Ps.shown d t = a ++ [10] := by
  obtain ⟨r, x, rfl⟩ : ∃ r x, t = r ++ [x] := ⟨t.dropLast, t.getLast h, (List.dropLast_concat_getLast h).symm⟩
  refine ⟨Ps.dtexts d ++ (Ps.ttexts r ++ ([103, 111, 32, 123, 10] ++ Ps.texts x 1 ++ [125])), ?_⟩
  simp [Ps.shown, Ps.ttexts, Ps.ttext]

/-- A program of the maker's, as text. -/
structure Made (d : List Dc) (t : List (List St)) : Prop where
  len : (Ps.shown d t).length ≤ 3653
  gd : ∀ x ∈ d, Ps.GdD x
  gt : ∀ b ∈ t, ∀ s ∈ b, Ps.Gd 2 s
  d24 : d.length ≤ 24
  t0 : t ≠ []
  t4 : t.length ≤ 4
  cr : Lx.cr (Ps.shown d t) = some (Ps.dcoress d ++ (Ps.tcoress t ++ [(4, [], 0)]))
theorem made_of {d : List Dc} {t : List (List St)} {most : Int} {nc : Nat} (hg : GoodP d t most nc) : Made d t := by
  have h1 := Ps.shown_len (e := 2) (by decide) d t hg.dl.2 fun b hb => hg.ok b hb
  have h2 := hg.dl.1
  have h3 := hg.three
  have h4 := hg.two
  exact ⟨by omega, hg.dl.2, fun b hb => (hg.ok b hb).1, by omega, by rintro rfl; simp at h4, by omega, Ps.cr_shown d t hg.dl.2 fun b hb => (hg.ok b hb).1⟩
theorem Made.out {d : List Dc} {t : List (List St)} (h : Made d t) {s : List UInt8} (hl : s.length ≤ 6000) (hc : Lx.cr s = Lx.cr (Ps.shown d t)) :
    ∃ d' t' q, Pp.out (Px.ba s) = (some (d', t'), q) ∧ d'.map Dc.strip = d.map Dc.strip ∧ t'.map St.strips = t.map St.strips :=
  Ps.out_cr (e := 2) (by decide) hl d t h.gd h.gt h.d24 h.t0 h.t4 (hc.trans h.cr)
theorem Made.more {d : List Dc} {t : List (List St)} (h : Made d t) {a : List UInt8} (hc : Lx.cr (a ++ [10]) = Lx.cr (Ps.shown d t)) (k : Nat) (hk : k < 5) (hl : (a ++ [10]).length ≤ 5988) :
    Pp.out (Px.ba (a ++ [10] ++ wordOf k)) = (none, (a ++ [10]).length) := by
  obtain ⟨kd, n, h1, h2, h3, h4⟩ := word_tok k hk
  have := Ps.out_more (e := 2) (by decide) (a := a) (w := wordOf k) (by simp at hl ⊢; omega) d t h.gd h.gt h.d24 h.t0 h.t4 (hc.trans h.cr) h1 h2 h3
  rw [List.append_assoc]
  rw [show a ++ ([10] ++ wordOf k) = a ++ 10 :: wordOf k from rfl, this]; simp

theorem lineW_app (A B : List UInt8) : lineW (Px.ba (A ++ B)) A.length = lineW (Px.ba A) A.length ∧ colW (Px.ba (A ++ B)) A.length = colW (Px.ba A) A.length := by
  have h : (A ++ B).take A.length = A.take A.length := by simp
  refine ⟨?_, ?_⟩
  · show Fp.rung (Sp.spot ((A ++ B).take A.length)).1 = Fp.rung (Sp.spot (A.take A.length)).1
    rw [h]
  · show Fp.rung (Sp.spot ((A ++ B).take A.length)).2 = Fp.rung (Sp.spot (A.take A.length)).2
    rw [h]
theorem line_cell {s : ByteArray} {w w' : World} {L : List (List UInt8)} {a : Option Addr} {n cap f i : Nat} (h : LnI s w w' L (.slice a n cap) f i) (k : Nat) (hk : k < L.length) :
    ∃ b, a = some ⟨b, 0, none⟩ ∧ b < w'.heap.size ∧ w'.cell? ⟨b, k, none⟩ = some (.string (Px.ba L[k])) := by
  rcases h.row.2 with ⟨e, _⟩ | ⟨g, cap, cur, e, _, _, _, _, _, _⟩
  · injection e with e1 e2 e3
    have := h.row.1
    rw [strs, List.length_map] at this
    subst e2
    rcases own_slice h.row with ⟨a', cap', e', hs⟩
    injection e' with e1 e2 e3
    omega
  · injection e with e1 e2 e3
    subst e1
    have hc := h.row.cells (g := g) rfl k (.string (Px.ba L[k])) (by simp [strs, hk])
    rw [Addr.add_mid, Nat.zero_add] at hc
    exact ⟨g, rfl, block_lt_of_cell hc, hc⟩
theorem line_len {s : ByteArray} {w w' : World} {L : List (List UInt8)} {v : Value} {f i : Nat} (h : LnI s w w' L v f i) : ∃ a cap, v = .slice a L.length cap := by
  obtain ⟨a, cap, e, -⟩ := own_slice h.row
  exact ⟨a, cap, e⟩

/-- What stands ahead of line i. -/
def gp (lg : List Int) (i : Nat) : List UInt8 := if i < lg.length then Ps.gapOf (lg.getD i 0 % 4).toNat else []
theorem gp_lex (lg : List Int) (i : Nat) : Ps.Lexes (gp lg i) [] := by unfold gp; split; exact Ps.gap_lex _; exact .nil
theorem gp_len (lg : List Int) (i : Nat) : (gp lg i).length ≤ 7 := by unfold gp; split; exact Ps.gap_len _; simp

theorem take_flat_le (L : List (List UInt8)) (k : Nat) : (L.take k).flatten.length ≤ L.flatten.length := by
  have h : L.flatten = (L.take k).flatten ++ (L.drop k).flatten := by rw [← List.flatten_append, List.take_append_drop]
  rw [h, List.length_append]; omega
theorem mix_short (lg : List Int) {L : List (List UInt8)} (hf : Ps.Fed L) (hl : L.flatten.length ≤ 3653) (k : Nat) : (Ps.mix (gp lg) 0 (L.take k)).length ≤ 29224 := by
  have h1 := Ps.mix_len (gp lg) 7 (gp_len lg) (L.take k) (fun x hx => hf x (List.mem_of_mem_take hx)) 0
  have h2 := take_flat_le L k
  omega

set_option maxRecDepth 100000 in
set_option maxHeartbeats 4000000 in
theorem parseAfter_row (how : Int) (la lb : List Ac) (lg : List Int) (va vb vg : Value) (word : Int) (w : World) (hh1 : -9223372036854775808 ≤ how) (hh2 : how ≤ 9223372036854775807) (ha : ActsR w w.heap.size la va) (hb : ActsR w w.heap.size lb vb) (hgs : IntsR w w.heap.size lg vg) (hE : Er w) :
    Calls Tryz.prog 5 #[.int .i64 how, va, vb, vg, .int .i64 word] w fun e w' => e = .returned (.bool true) ∧ Kept w w' := by
  have HP : Hid _ := prog_any how la lb [] va vb (.slice none 0 0) 5 w hh1 hh2 ha hb (acts_nil _ _) (by omega) (by omega)
  have HE : Hid (Er w) := hE
  have HG : Hid (IntsR w w.heap.size lg vg) := hgs
  obtain ⟨a1, q1, rfl, x1, x2, -⟩ := ha.out
  obtain ⟨a2, q2, rfl, x3, x4, -⟩ := hb.out
  obtain ⟨a3, q3, rfl, y1, y2, -⟩ := hgs.out
  clear ha hb hgs x1 x2 x3 x4 hE hh1 hh2
  have KN : Hid (∀ W, Kept w W → Calls Tryz.prog 9 #[] W fun e w' => e = .returned (.bool true) ∧ Kept W w') := fun W hW => known_any W (HE.out.kept hW)
  go_enter Tryz.func5, Tryz.ntmps5
  go_wp2_with fail
  refine Calls.mono HP.out ?_
  rintro e w1 ⟨d, t, ad, nd, qd, at', nt, qt, rfl, HM⟩
  obtain ⟨hds, hts, hg, hk⟩ := HM.out
  have hmd := made_of hg
  have HMD : Hid (Made d t) := hmd
  have SH : Hid (Calls Tryz.prog 14 #[.agg #[.slice ad nd qd, .slice at' nt qt]] w1 fun r w' => r = .returned (.string (Px.ba (Ps.shown d t))) ∧ Kept w1 w') :=
    showp_any 2 (by decide) d t hmd.gd hmd.gt (by have := hmd.len; omega) w1 _ _ (hds.up (Nat.le_refl _) (Kept.refl _)) (hts.up (Nat.le_refl _) (Kept.refl _))
  have HK : Hid (Kept w w1) := hk
  have HEnd : Hid (∃ a, (Px.ba (Ps.shown d t)).data.toList = a ++ [10]) := shown_ends d t hmd.t0
  have hsz : (Px.ba (Ps.shown d t)).size ≤ 3653 := by rw [Px.ba_size]; exact hmd.len
  have HSZ : Hid ((Px.ba (Ps.shown d t)).size = (Ps.shown d t).length) := Px.ba_size _
  have HSD : Hid ((Px.ba (Ps.shown d t)).data.toList = Ps.shown d t) := rfl
  obtain ⟨d1, t1, qs, ho, hs1, hs2⟩ := hmd.out (s := Ps.shown d t) (by have := hmd.len; omega) rfl
  have HST : Hid (d1.map Dc.strip = d.map Dc.strip ∧ t1.map St.strips = t.map St.strips) := ⟨hs1, hs2⟩
  have RS : Hid (∀ W, Kept w W → Calls Tryz.prog 7 #[.string (Px.ba (Ps.shown d t))] W fun e w' => GotR (Px.ba (Ps.shown d t)) W (some (d1, t1)) qs e w') :=
    fun W hW => pread_any _ (by omega) W (HE.out.kept hW) _ _ ho
  generalize Px.ba (Ps.shown d t) = S at *
  clear hds hts hg hk hmd HP HM ho hs1 hs2
  go_wp2_with fail
  refine Calls.mono SH.out ?_
  rintro e w2 ⟨rfl, k2⟩
  have HK2 : Hid (Kept w w2) := HK.out.then k2
  have LL : Hid _ := rlines_any S (by omega) HEnd.out w2
  clear k2 SH HK
  go_wp2_with fail
  refine Calls.mono LL.out ?_
  rintro e w3 ⟨L, vl, rfl, HI⟩
  obtain ⟨al, cl, rfl⟩ := line_len HI.out
  have HK3 : Hid (Kept w w3) := HK2.out.then HI.out.kept
  have HFed : Hid (Ps.Fed L) := HI.out.fed
  have HFl : Hid (L.flatten = Ps.shown d t) := by
    show _ = _
    rw [HI.out.flat, HSD.out, HSZ.out, List.take_length]
  have HLN : Hid (L.flatten.length ≤ 3653) := by show _ ≤ _; rw [HFl.out, ← HSZ.out]; exact hsz
  have hLl : L.length ≤ 3653 := by have := HI.out.few; omega
  clear LL HK2
  go_wp2_with fail
  go_loopw [12, 33] (fun tt i wr => ∃ k : Nat, k ≤ L.length ∧ i = .int .i64 (k : Int) ∧ tt = .string (Px.ba (Ps.mix (gp lg) 0 (L.take k))) ∧ wr = w3) (fun _ i _ => L.length - (intOf i).toNat)
  case atStart => exact ⟨0, Nat.zero_le _, rfl, rfl, rfl⟩
  case round =>
    obtain ⟨k, hk, rfl, rfl, rfl⟩ := hrel
    by_cases hlt : k < L.length
    · have hki : (k : Int) < (L.length : Int) := by omega
      obtain ⟨b, rfl, hb, hc⟩ := line_cell HI.out k hlt
      have hs1 := mix_short lg HFed.out HLN.out (k + 1)
      have HMX : Hid _ := Ps.mix_take (gp lg) L k hlt
      rw [HMX.out, List.length_append, List.length_append] at hs1
      have z1 : (Px.ba (Ps.mix (gp lg) 0 (L.take k))).size ≤ 29224 := by rw [Px.ba_size]; omega
      have z2 : (Px.ba L[k]).size ≤ 29224 := by rw [Px.ba_size]; omega
      clear hs1
      by_cases hgl : k < lg.length
      · have hgi : (k : Int) < (lg.length : Int) := by omega
        obtain ⟨_, _, ei, -, -, hcell, -⟩ := HG.out.out
        injection ei with ei1 ei2 ei3
        subst ei1
        obtain ⟨gb, go, rfl, hgb, hgc⟩ := hcell k hgl
        have hgc := HK3.out.cellS hgc
        obtain ⟨j, hj, hjm, PK⟩ := pick_nat lg[k] 4 (by omega) (by omega)
        have HPK : Hid _ := PK
        have IG := index_gap j hj
        have HGP : Hid (gp lg k = Ps.gapOf j) := by
          show _ = _
          unfold gp
          rw [if_pos hgl, List.getD_eq_getElem?_getD, List.getElem?_eq_getElem hgl]
          show Ps.gapOf (lg[k] % ((4 : Nat) : Int)).toNat = _
          rw [hjm]; rfl
        have z3 : (Px.ba (Ps.gapOf j)).size ≤ 7 := by rw [Px.ba_size]; exact Ps.gap_len j
        have HEQ : Hid ((Px.ba (Ps.mix (gp lg) 0 (L.take k)) ++ Px.ba (Ps.gapOf j)) ++ Px.ba L[k] = Px.ba (Ps.mix (gp lg) 0 (L.take (k + 1)))) := by
          show _ = _
          rw [HMX.out, HGP.out, Px.ba_app, Px.ba_app]
        clear hcell hjm PK hj ei2 ei3
        generalize Px.ba (Ps.mix (gp lg) 0 (L.take k)) = S1 at *
        generalize Px.ba (Ps.gapOf j) = S2 at *
        generalize Px.ba L[k] = S3 at *
        have y1 : (S1 ++ S2).size ≤ 29231 := by rw [ByteArray.size_append]; omega
        have B1 := addf S1 S2 (by omega)
        have B2 := addf (S1 ++ S2) S3 (by omega)
        clear HMX
        go_wp2_with fail
        refine (HPK.out _).mono ?_
        rintro e w4 ⟨rfl, rfl⟩
        go_wp2_with fail
        go_roundw
        case rel => exact ⟨k + 1, by omega, by go_num, by rw [HEQ.out], trivial⟩
        case measure => simp [intOf]; omega
      · have hgi : ¬ (k : Int) < (lg.length : Int) := by omega
        have HEQ : Hid (Px.ba (Ps.mix (gp lg) 0 (L.take k)) ++ Px.ba L[k] = Px.ba (Ps.mix (gp lg) 0 (L.take (k + 1)))) := by
          show _ = _
          rw [HMX.out, show gp lg k = [] by unfold gp; rw [if_neg hgl], Px.ba_app, List.append_nil]
        generalize Px.ba (Ps.mix (gp lg) 0 (L.take k)) = S1 at *
        generalize Px.ba L[k] = S3 at *
        have B2 := addf S1 S3 (by omega)
        clear HMX
        go_wp2_with fail
        go_roundw
        case rel => exact ⟨k + 1, by omega, by go_num, by rw [HEQ.out], trivial⟩
        case measure => simp [intOf]; omega
    · have hki : ¬ (k : Int) < (L.length : Int) := by omega
      obtain rfl : k = L.length := by omega
      have hTl := mix_short lg HFed.out HLN.out L.length
      have HCR : Hid (Lx.cr (Ps.mix (gp lg) 0 L) = Lx.cr (Ps.shown d t)) := by
        show _ = _
        rw [Ps.mix_cr _ (gp_lex lg) L HFed.out 0, HFl.out]
      have HTE : Hid (∃ a, Ps.mix (gp lg) 0 L = a ++ [10]) := Ps.mix_ends _ L HFed.out (by
        rintro rfl
        obtain ⟨a, h⟩ := shown_ends d t HMD.out.t0
        have := HFl.out
        rw [h] at this
        simp at this) 0
      rw [List.take_length] at hTl ⊢
      generalize Ps.mix (gp lg) 0 L = T at *
      have hTs : (Px.ba T).size = T.length := Px.ba_size T
      have HTS : Hid ((Px.ba T).size = T.length) := hTs
      by_cases hsm : T.length ≤ 5988
      · obtain ⟨d2, t2, qt2, ho2, hs3, hs4⟩ := HMD.out.out (s := T) (by omega) HCR.out
        have RT : Hid (∀ W, Kept w W → Calls Tryz.prog 7 #[.string (Px.ba T)] W fun e w' => GotR (Px.ba T) W (some (d2, t2)) qt2 e w') := fun W hW => pread_any _ (by omega) W (HE.out.kept hW) _ _ ho2
        have sD : Dc.sames d1 d2 = true := Dc.sames_strips d1 d2 (HST.out.1.trans hs3.symm)
        have sT : sameTs t1 t2 = true := sameTs_strips t1 t2 (HST.out.2.trans hs4.symm)
        have SM : Hid (∀ W v1 v2 v3 v4, DsIn W 0 W.heap.size d1 v1 → TsIn W 0 W.heap.size t1 v2 → DsIn W 0 W.heap.size d2 v3 → TsIn W 0 W.heap.size t2 v4 → Calls Tryz.prog 10 #[.agg #[v1, v2], .agg #[v3, v4]] W fun e w' => e = .returned (.bool true) ∧ Kept W w') := fun W v1 v2 v3 v4 g1 g2 g3 g4 => by
          have := rsame_any d1 d2 t1 t2 W v1 v2 v3 v4 g1 g2 g3 g4
          rwa [sD, sT] at this
        obtain ⟨j, hj, hjm, PK⟩ := pick_nat word 5 (by omega) (by omega)
        have HPK : Hid _ := PK
        have IW := index_word j hj
        have hwl : (wordOf j).length ≤ 4 := (word_tok j hj).choose_spec.choose_spec.2.2.2
        have hmore : Pp.out (Px.ba (T ++ wordOf j)) = (none, T.length) := by
          obtain ⟨a, ha⟩ := HTE.out
          have h1 := HCR.out
          rw [ha] at h1 ⊢
          exact HMD.out.more h1 j hj (by rw [← ha]; exact hsm)
        have RW : Hid (∀ W, Kept w W → Calls Tryz.prog 7 #[.string (Px.ba (T ++ wordOf j))] W fun e w' => GotR (Px.ba (T ++ wordOf j)) W none T.length e w') := fun W hW => pread_any _ (by rw [Px.ba_size, List.length_append]; omega) W (HE.out.kept hW) _ _ hmore
        have PL : Hid (∀ W, Calls Tryz.prog 11 #[.string (Px.ba T), .int .i64 ((Px.ba T).size : Int)] W fun e w' => e = .returned (.complex .f64 (lineW (Px.ba T) (Px.ba T).size) (colW (Px.ba T) (Px.ba T).size)) ∧ w' = W) := fun W => place_in (Px.ba T) (Px.ba T).size (by omega) (Nat.le_refl _) W
        have HLC : Hid (lineW (Px.ba (T ++ wordOf j)) T.length = lineW (Px.ba T) (Px.ba T).size ∧ colW (Px.ba (T ++ wordOf j)) T.length = colW (Px.ba T) (Px.ba T).size) := by
          show _ ∧ _
          rw [hTs]; exact lineW_app T (wordOf j)
        have f1 := ord_line (Px.ba T) (Px.ba T).size (by omega) (Nat.le_refl _)
        have f2 := ord_col (Px.ba T) (Px.ba T).size (by omega) (Nat.le_refl _)
        have ADD := addf (Px.ba T) (Px.ba (wordOf j)) (by rw [Px.ba_size, Px.ba_size]; omega)
        have hADD : Px.ba T ++ Px.ba (wordOf j) = Px.ba (T ++ wordOf j) := Px.ba_app _ _
        have gsz : ¬ (5988 : Int) < ((Px.ba T).size : Int) := by omega
        generalize Px.ba (wordOf j) = SW at *
        generalize Px.ba (T ++ wordOf j) = STW at *
        generalize lineW (Px.ba T) (Px.ba T).size = XL at *
        generalize colW (Px.ba T) (Px.ba T).size = YL at *
        generalize Px.ba T = ST at *
        clear ho2 hs3 hs4 sD sT hjm PK hj hwl hmore hTs hTl HCR HTE hsm
        go_wp2_with fail
        refine (RS.out _ HK3.out).mono ?_
        rintro e w4 ⟨b1, m1, p1, b2, m2, p2, X, Y, E, rfl, H⟩
        obtain ⟨k4, -, hv⟩ := unhide H
        obtain ⟨rfl, rfl, rfl, hdx, htx⟩ := hv _ _ rfl
        have HA : Hid (DsIn w4 0 w4.heap.size d1 (.slice b1 m1 p1) ∧ TsIn w4 0 w4.heap.size t1 (.slice b2 m2 p2)) := ⟨hdx.up (Nat.le_refl _) (Kept.refl _), htx.up (Nat.le_refl _) (Kept.refl _)⟩
        have HK4 : Hid (Kept w w4) := HK3.out.then k4
        clear k4 hv hdx htx H
        go_wp2_with fail
        refine (RT.out _ (HK4.out.al _)).mono ?_
        rintro e w5 ⟨b3, m3, p3, b4, m4, p4, X, Y, E, rfl, H⟩
        obtain ⟨k5, -, hv⟩ := unhide H
        obtain ⟨rfl, rfl, rfl, hdx, htx⟩ := hv _ _ rfl
        have HB : Hid (DsIn w5 0 w5.heap.size d2 (.slice b3 m3 p3) ∧ TsIn w5 0 w5.heap.size t2 (.slice b4 m4 p4)) := ⟨hdx.up (Nat.le_refl _) (Kept.refl _), htx.up (Nat.le_refl _) (Kept.refl _)⟩
        have K45 : Hid (Kept w4 w5) := ((Kept.refl w4).al _).then k5
        have c0 : w5.cell? ⟨w4.heap.size, 0, none⟩ = some (.slice b1 m1 p1) := k5.cellS (by simp)
        have c1 : w5.cell? ⟨w4.heap.size, 1, none⟩ = some (.slice b2 m2 p2) := k5.cellS (by simp)
        clear k5 hv hdx htx H
        go_wp2_with fail
        refine (KN.out _ ((HK4.out.then K45.out).al _)).mono ?_
        rintro e w6 ⟨rfl, k6⟩
        have K56 : Hid (Kept w5 w6) := ((Kept.refl w5).al _).then k6
        have c0 := K56.out.cellS c0
        have c1 := K56.out.cellS c1
        have e0 : w6.cell? ⟨w5.heap.size, 0, none⟩ = some (.slice b3 m3 p3) := k6.cellS (by simp)
        have e1 : w6.cell? ⟨w5.heap.size, 1, none⟩ = some (.slice b4 m4 p4) := k6.cellS (by simp)
        clear k6
        go_wp2_with fail
        refine (HPK.out _).mono ?_
        rintro e w6' ⟨rfl, rfl⟩
        go_wp2_with fail
        refine (RW.out _ (HK4.out.then (K45.out.then K56.out))).mono ?_
        rintro e w7 ⟨b5, m5, p5, b6, m6, p6, X, Y, E, rfl, H⟩
        obtain ⟨k7, hn, -⟩ := unhide H
        obtain ⟨rfl, rfl, rfl, rfl, rfl, rfl, rfl, rfl, rfl⟩ := hn rfl
        rw [HLC.out.1, HLC.out.2]
        have c0 := k7.cellS c0
        have c1 := k7.cellS c1
        have e0 := k7.cellS e0
        have e1 := k7.cellS e1
        have K57 : Hid (Kept w5 w7) := K56.out.then k7
        have z4 : w4.heap.size < w7.heap.size := block_lt_of_cell c0
        have z5 : w5.heap.size < w7.heap.size := block_lt_of_cell e0
        clear k7 hn H
        go_wp2_with fail
        refine (SM.out _ _ _ _ _ (HA.out.1.up (Nat.le_refl _) ((K45.out.then K57.out).al _)) (HA.out.2.up (Nat.le_refl _) ((K45.out.then K57.out).al _)) (HB.out.1.up (Nat.le_refl _) (K57.out.al _)) (HB.out.2.up (Nat.le_refl _) (K57.out.al _))).mono ?_
        rintro e w8 ⟨rfl, k8⟩
        have KF : Hid (Kept w w8) := ((HK4.out.then (K45.out.then K57.out)).al _).then k8
        clear k8
        go_wp2_with fail
        refine (PL.out _).mono ?_
        rintro e w9 ⟨rfl, rfl⟩
        go_wp2_with fail
        go_ret
        have HF : (FloatKind.f64.format.order XL XL == some Ordering.eq && FloatKind.f64.format.order YL YL == some Ordering.eq) = true := by
          have f1 : (FloatKind.f64.format.order XL XL == some Ordering.eq) = true := f1
          have f2 : (FloatKind.f64.format.order YL YL == some Ordering.eq) = true := f2
          rw [f1, f2]; rfl
        exact ⟨ret_bool HF, KF.out⟩
      · obtain ⟨r2, qt2, ho2⟩ : ∃ r q, Pp.out (Px.ba T) = (r, q) := ⟨_, _, rfl⟩
        have RT : Hid (∀ W, Kept w W → Calls Tryz.prog 7 #[.string (Px.ba T)] W fun e w' => GotR (Px.ba T) W r2 qt2 e w') := fun W hW => pread_any _ (by omega) W (HE.out.kept hW) _ _ ho2
        have gsz : (5988 : Int) < ((Px.ba T).size : Int) := by omega
        generalize Px.ba T = ST at *
        clear ho2 hTs hTl HCR HTE hsm
        go_wp2_with fail
        refine (RS.out _ HK3.out).mono ?_
        rintro e w4 ⟨b1, m1, p1, b2, m2, p2, X, Y, E, rfl, H⟩
        have HK4 : Hid (Kept w w4) := HK3.out.then (unhide H).1
        clear H
        go_wp2_with fail
        refine (RT.out _ (HK4.out.al _)).mono ?_
        rintro e w5 ⟨b3, m3, p3, b4, m4, p4, X', Y', E', rfl, H⟩
        have HK5 : Hid (Kept w w5) := (HK4.out.al _).then (unhide H).1
        clear H
        go_wp2_with fail
        refine (KN.out _ (HK5.out.al _)).mono ?_
        rintro e w6 ⟨rfl, k6⟩
        have HK6 : Hid (Kept w w6) := (HK5.out.al _).then k6
        clear k6
        go_wp2_with fail
        refine (KN.out _ HK6.out).mono ?_
        rintro e w7 ⟨rfl, k7⟩
        have KF : Hid (Kept w w7) := HK6.out.then k7
        clear k7
        go_wp2_with fail
        go_ret
        exact ⟨rfl, KF.out⟩
#print axioms parseAfter_row
end Go.Proofs.YteaopephdjoegaaGreatDoor
