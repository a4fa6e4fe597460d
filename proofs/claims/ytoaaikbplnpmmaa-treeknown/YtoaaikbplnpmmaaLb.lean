/- What appendBlock and List answer: the statements, in order, each in memory of its own. -/
import Derived.Test.YtoaaikbplnpmmaaLi
namespace Go.Proofs.Ytoaaikbplnpmmaa
open Go.RowKit
attribute [local go_sem] run_store_complex

/-- What appendBlock answers at l. -/
def PAb (l : List St) : Prop := ∀ (w : World) (base : Nat) (ps : List Item) (v bv : Value), OwnK w base (Far base w v) ps v → StsIn w 0 base l bv → ps.length + St.sizes l ≤ 1073741824 → St.wts l ≤ 1073741824 →
  Calls Try.prog 24 #[v, bv] w fun r w' => ∃ v' ps', r = .returned v' ∧ OwnK w' base (Far base w' v') ps' v' ∧ ps'.map (·.s) = ps.map (·.s) ++ St.flats l ∧ Grow w w' v v'

theorem ab_one {wr W w4 : World} {base : Nat} {ps : List Item} {v v' : Value} {p : Item} (h : OwnK wr base (Far base wr v) ps v) (k : Kept wr W) (hp : p.InD W (Rng wr.heap.size W.heap.size)) (hG : Grew W base 29 11 v ps.length (cellsOf ps) 1 p.cells v' w4) :
    OwnK w4 base (Far base w4 v') (ps ++ [p]) v' ∧ Grow wr w4 v v' := by
  have hz := k.size
  have h1 : OwnK W base (Far base W v) ps v := (h.kept k fun i hi => hi.2.1).mono fun i hi => ⟨hi.1, by have := hi.2.1; omega, hi.2.2⟩
  refine ⟨h1.grewFar (qs := [p]) (fun q hq => ?_) (by rw [cellsOf_one]; exact hG), (Grow.kept v k).trans hG.grow⟩
  obtain rfl : q = p := by simpa using hq
  refine hp.mono fun i hi => ⟨?_, hi.2, fun e => ?_⟩
  · have := h.le; have := hi.1; omega
  · have := (h.row.lt i e.symm).2; have := hi.1; omega

theorem map_len {ps : List Item} {l : List St} (h : ps.map (·.s) = l) : ps.length = l.length := by rw [← h, List.length_map]

set_option maxRecDepth 100000 in
set_option maxHeartbeats 2000000 in
theorem appendBlock_of (l : List St) (H : ∀ x ∈ l, PAb x.body ∧ PAb x.els) : PAb l := by
  intro w base ps v bv ho hb hn hw
  have HA : Hid _ := hb
  have HO : Hid _ := ho
  have HH : Hid (∀ x ∈ l, PAb x.body ∧ PAb x.els) := H
  have HN : Hid (ps.length + St.sizes l ≤ 1073741824 ∧ St.wts l ≤ 1073741824) := ⟨hn, hw⟩
  obtain ⟨a0, cap0, rfl, -⟩ := own_slice ho.row
  obtain ⟨a, cap, rfl, hl, hl2, hcap⟩ := hb.open
  clear ho hb H hn hw
  go_enter Try.func24, Try.ntmps24
  go_wp2_with fail
  go_loopw [0, 9] (fun list i wr => ∃ (k : Nat) (a1 : Option Addr) (n1 q1 : Nat) (ps1 : List Item), list = .slice a1 n1 q1 ∧ i = .int .i64 (k : Int) ∧ k ≤ l.length ∧ Hid (OwnK wr base (Far base wr (.slice a1 n1 q1)) ps1 (.slice a1 n1 q1) ∧ ps1.map (·.s) = ps.map (·.s) ++ St.flats (l.take k) ∧ Grow w wr (.slice a0 ps.length cap0) (.slice a1 n1 q1))) (fun _ i _ => l.length - (intOf i).toNat)
  case atStart => exact ⟨0, _, _, _, ps, rfl, rfl, Nat.zero_le _, HO.out, by simp [St.flats], Grow.refl _ _⟩
  case round =>
    obtain ⟨k, ax, nx, qx, ps1, rfl, rfl, hk, HI⟩ := hrel
    have hbw := HO.out.le
    have hbr := HI.out.1.le
    have HBl : Hid (Below base w wr) := HI.out.2.2.below hbw HO.out.base_le
    by_cases hlt : k < l.length
    · have hki : (k : Int) < (l.length : Int) := by omega
      obtain ⟨b, o, a1, n1, q1, a2, n2, q2, a3, n3, q3, rfl, _, hb, _, c0, c1, c2, c3, c4, c5, c6, c7, c8, c9, c10, k1, k2, k3⟩ := HA.out.item (Stays.of_below HBl.out (Nat.le_refl _)) k hlt
      have hzb : b < wr.heap.size := by omega
      have K : Hid _ := And.intro k1 (And.intro k2 k3)
      have hwt : l[k].wt ≤ 1073741824 := by have := St.wt_mem l l[k] (List.getElem_mem hlt); have := HN.out.2; omega
      have hlen1 : ps1.length = ps.length + St.sizes (l.take k) := by rw [map_len HI.out.2.1, List.length_append, List.length_map, St.flats_len]
      have hst := St.sizes_take l k hlt
      have hstl := St.sizes_take_le l (k + 1)
      have HLE : Hid (ps1.length + 1 + (St.sizes l[k].body + St.sizes l[k].els) ≤ 1073741824 ∧ ps1.length ≤ 1073741824) := by have := HN.out.1; exact ⟨by omega, by omega⟩
      have hpl : ps1.length ≤ 1073741823 := by have := HLE.out.1; omega
      have P1 : Hid (∀ W, Kept wr W → Calls Try.prog 41 #[.agg #[.int .i64 l[k].kind, .string l[k].name, .string l[k].other, .int .i64 l[k].n, .int .i64 l[k].e.kind, .int .i64 l[k].e.n, .string l[k].e.name, .slice a1 n1 q1, .slice a2 n2 q2, .slice a3 n3 q3, .complex .f64 l[k].re l[k].im]] W fun r w' => ∃ a4 n4 q4 a5 n5 q5 a6 n6 q6, r = .returned (l[k].val (.slice a4 n4 q4) (.slice a5 n5 q5) (.slice a6 n6 q6)) ∧ Hid (Item.InD w' (Rng W.heap.size w'.heap.size) ⟨l[k], .slice a4 n4 q4, .slice a5 n5 q5, .slice a6 n6 q6⟩ ∧ Kept W w')) := by
        intro W hW
        refine (copyStmt_any l[k] W _ _ _ (k1.up hbr hW) (k2.up hbr hW) (k3.up hbr hW) hwt).mono ?_
        rintro r w3 ⟨v1, v2, v3, rfl, hv1, hv2, hv3, kw3⟩
        obtain ⟨a4, n4, q4, rfl⟩ := hv1.form
        obtain ⟨a5, n5, q5, rfl⟩ := hv2.form
        obtain ⟨a6, n6, q6, rfl⟩ := hv3.form
        exact ⟨a4, n4, q4, a5, n5, q5, a6, n6, q6, rfl, ⟨hv1, hv2, hv3⟩, kw3⟩
      clear k1 k2 k3 hwt hlen1 hst hstl
      go_wp2_with fail
      refine (P1.out _ ((Kept.refl wr).al _)).mono ?_
      rintro r w3 ⟨a4, n4, q4, a5, n5, q5, a6, n6, q6, rfl, HV⟩
      unfold St.val
      have HOW : Hid (OwnK (w3.alloc (.cells #[.int .i64 l[k].kind, .string l[k].name, .string l[k].other, .int .i64 l[k].n, .int .i64 l[k].e.kind, .int .i64 l[k].e.n, .string l[k].e.name, .slice a4 n4 q4, .slice a5 n5 q5, .slice a6 n6 q6, .complex .f64 l[k].re l[k].im] 29)) base (Far base wr (.slice ax nx qx)) ps1 (.slice ax nx qx)) :=
        HI.out.1.kept ((((Kept.refl wr).al _).then HV.out.2).al _) fun i hi => hi.2.1
      go_wp2_with (at_builtin; refine wpList_append_rows (base := base) (n := ps1.length) (xs := cellsOf ps1) (by rfl) _ _ _ (by rfl) elemSt (by rfl) HOW.out.row (by rfl) (own_lit 0 29 11 _ (by rfl) (Nat.zero_le _)) ?one (by omega) ?len HOW.out.le ?_)
      case one => exact ⟨rfl, rfl, rfl, rfl, rfl, rfl, rfl, rfl, rfl, rfl, rfl⟩
      case len => unfold maxLen; omega
      intro ad capd w4 HG
      have h1 := ab_one HI.out.1 ((((Kept.refl wr).al _).then HV.out.2).al _) ((HV.out.1.stays (((Kept.refl w3).al _).stays (Nat.le_refl _))).mono (Rng.up (by simp) (by simp))) HG.out
      have hnw : some wr.heap.size ≠ (Value.slice ax nx qx).ownBlock := fun e => by have := (HI.out.1.row.lt _ e.symm).2; omega
      have e8 : w4.cell? ⟨wr.heap.size, 8, none⟩ = some (.slice a2 n2 q2) := HG.out.grown.cell ((HV.out.2.al _).cellS (by simp)) hnw
      have e9 : w4.cell? ⟨wr.heap.size, 9, none⟩ = some (.slice a3 n3 q3) := HG.out.grown.cell ((HV.out.2.al _).cellS (by simp)) hnw
      have hz4 : wr.heap.size < w4.heap.size := block_lt_of_cell e8
      have HBl4 : Hid (Below base wr w4) := h1.2.below hbr HI.out.1.base_le
      obtain ⟨ps2, hps2⟩ : ∃ ps2, ps1 ++ [(⟨l[k], .slice a4 n4 q4, .slice a5 n5 q5, .slice a6 n6 q6⟩ : Item)] = ps2 := ⟨_, rfl⟩
      have hl2' : ps2.length = ps1.length + 1 := by rw [← hps2]; simp
      have hm2 : ps2.map (·.s) = ps1.map (·.s) ++ [l[k]] := by rw [← hps2]; simp
      rw [hps2] at h1
      have hsw1 : St.wts l[k].body ≤ 1073741824 ∧ St.wts l[k].els ≤ 1073741824 := by
        have := St.wt_mem l l[k] (List.getElem_mem hlt); have := HN.out.2; have := St.wt_eq l[k]; omega
      have hle := HLE.out.1
      have P2 : Hid (Calls Try.prog 24 #[.slice ad (ps1.length + 1) capd, .slice a2 n2 q2] w4 fun r w' => ∃ a7 n7 q7 ps', r = .returned (.slice a7 n7 q7) ∧ w'.cell? ⟨wr.heap.size, 9, none⟩ = some (.slice a3 n3 q3) ∧ Hid (OwnK w' base (Far base w' (.slice a7 n7 q7)) ps' (.slice a7 n7 q7) ∧ ps'.map (·.s) = ps2.map (·.s) ++ St.flats l[k].body ∧ Grow w4 w' (.slice ad (ps1.length + 1) capd) (.slice a7 n7 q7))) := by
        refine ((HH.out _ (List.getElem_mem hlt)).1 w4 base ps2 _ _ h1.1 (K.out.2.1.stays (Stays.of_below HBl4.out (Nat.le_refl _))) (by omega) hsw1.1).mono ?_
        rintro r w5 ⟨v5, ps5, rfl, ho5, hm5, hg5⟩
        obtain ⟨a7, q7, rfl, -⟩ := own_slice ho5.row
        refine ⟨a7, _, q7, ps5, rfl, ?_, ho5, hm5, hg5⟩
        refine hg5.grown.cell e9 ?_
        rcases HG.out.lies with e | e
        · rw [e]; exact hnw
        · rw [e]; intro h; have := HV.out.2.size; simp at h this; omega
      have HS1 : Hid _ := h1
      clear h1 e9 hnw
      go_wp2_with fail
      refine Calls.mono P2.out ?_
      rintro r w5 ⟨a7, n7, q7, ps5, rfl, e9, HS2⟩
      have HBl5 : Hid (Below base wr w5) := Below.trans HBl4.out (HS2.out.2.2.below HS1.out.1.le HS1.out.1.base_le)
      have hz5 : wr.heap.size < w5.heap.size := block_lt_of_cell e9
      have hl5 : ps5.length = ps2.length + St.sizes l[k].body := by rw [map_len HS2.out.2.1, List.length_append, List.length_map, St.flats_len]
      have P3 : Hid (Calls Try.prog 24 #[.slice a7 n7 q7, .slice a3 n3 q3] w5 fun r w' => ∃ a8 n8 q8 ps', r = .returned (.slice a8 n8 q8) ∧ Hid (OwnK w' base (Far base w' (.slice a8 n8 q8)) ps' (.slice a8 n8 q8) ∧ ps'.map (·.s) = ps5.map (·.s) ++ St.flats l[k].els ∧ Grow w5 w' (.slice a7 n7 q7) (.slice a8 n8 q8))) := by
        refine ((HH.out _ (List.getElem_mem hlt)).2 w5 base ps5 _ _ HS2.out.1 (K.out.2.2.stays (Stays.of_below HBl5.out (Nat.le_refl _))) (by omega) hsw1.2).mono ?_
        rintro r w6 ⟨v6, ps6, rfl, ho6, hm6, hg6⟩
        obtain ⟨a8, q8, rfl, -⟩ := own_slice ho6.row
        exact ⟨a8, _, q8, ps6, rfl, ho6, hm6, hg6⟩
      go_wp2_with fail
      refine Calls.mono P3.out ?_
      rintro r w6 ⟨a8, n8, q8, ps6, rfl, HS3⟩
      have HM : Hid (ps6.map (·.s) = ps.map (·.s) ++ St.flats (l.take (k + 1))) := by
        show _ = _
        rw [HS3.out.2.1, HS2.out.2.1, hm2, HI.out.2.1, St.flats_take l k hlt]
        simp
      clear hm2 hl2' hps2 hl5 hle hsw1
      go_wp2_with fail
      go_roundw
      case rel => exact ⟨k + 1, _, _, _, ps6, rfl, by go_num, by omega, HS3.out.1, HM.out, HI.out.2.2.trans (HS1.out.2.trans (HS2.out.2.2.trans HS3.out.2.2))⟩
      case measure => simp [intOf]; omega
    · have hki : ¬ (k : Int) < (l.length : Int) := by omega
      have HM : Hid (ps1.map (·.s) = ps.map (·.s) ++ St.flats l) := by
        have := HI.out.2.1
        rwa [List.take_of_length_le (by omega)] at this
      go_wp2_with fail
      go_ret
      exact ⟨_, rfl, ps1, HI.out.1, HM.out, HI.out.2.2⟩

theorem appendBlock_any (l : List St) : PAb l :=
  appendBlock_of l fun x _ => St.ind (P := fun x => PAb x.body ∧ PAb x.els) (fun s hb hl => ⟨appendBlock_of s.body hb, appendBlock_of s.els hl⟩) x

def flatTs : List (List St) → List St
  | [] => []
  | a :: l => St.flats a ++ flatTs l
theorem flatTs_append (l m : List (List St)) : flatTs (l ++ m) = flatTs l ++ flatTs m := by
  induction l with
  | nil => rfl
  | cons a l ih => simp [flatTs, ih]
theorem flatTs_take (l : List (List St)) (k : Nat) (h : k < l.length) : flatTs (l.take (k + 1)) = flatTs (l.take k) ++ St.flats l[k] := by
  rw [List.take_succ_eq_append_getElem h, flatTs_append]; simp [flatTs]
theorem flatTs_take_len (l : List (List St)) (k : Nat) : (flatTs (l.take k)).length ≤ (flatTs l).length := by
  have := flatTs_append (l.take k) (l.drop k)
  rw [List.take_append_drop] at this
  rw [this, List.length_append]; omega

set_option maxRecDepth 100000 in
set_option maxHeartbeats 2000000 in
theorem list_any (d : List Dc) (t : List (List St)) (w : World) (dv tv : Value) (hd : DsIn w 0 w.heap.size d dv) (ht : TsIn w 0 w.heap.size t tv) (hn : (flatTs t).length ≤ 1073741824) (hwt : ∀ x ∈ t, St.wts x ≤ 1073741824) :
    Calls Try.prog 8 #[.agg #[dv, tv]] w fun r w' => ∃ v', r = .returned v' ∧ StsIn w' w.heap.size w'.heap.size (flatTs t) v' ∧ Kept w w' := by
  have HA : Hid _ := ht
  have HN : Hid ((flatTs t).length ≤ 1073741824 ∧ ∀ x ∈ t, St.wts x ≤ 1073741824) := ⟨hn, hwt⟩
  obtain ⟨ad, capd, rfl, -⟩ := hd.open
  obtain ⟨a, cap, rfl, hl, hl2, hcap⟩ := ht.open
  clear hd ht hn hwt
  go_enter Try.func8, Try.ntmps8
  go_wp2_with fail
  obtain ⟨W0, hW0⟩ : ∃ W0, w.alloc (.cells #[.slice ad d.length capd, .slice a t.length cap] 33) = W0 := ⟨_, rfl⟩
  have HW0 : Hid (Kept w W0 ∧ W0.heap.size = w.heap.size + 1) := by rw [← hW0]; exact ⟨(Kept.refl _).al _, by simp⟩
  rw [hW0]
  clear hW0
  go_loopw [3, 9] (fun list i wr => ∃ (k : Nat) (a1 : Option Addr) (n1 q1 : Nat) (ps1 : List Item), list = .slice a1 n1 q1 ∧ i = .int .i64 (k : Int) ∧ k ≤ t.length ∧ Hid (OwnK wr W0.heap.size (Far W0.heap.size wr (.slice a1 n1 q1)) ps1 (.slice a1 n1 q1) ∧ ps1.map (·.s) = flatTs (t.take k) ∧ Grow W0 wr (.slice none 0 0) (.slice a1 n1 q1))) (fun _ i _ => t.length - (intOf i).toNat)
  case atStart => exact ⟨0, _, _, _, [], rfl, rfl, Nat.zero_le _, OwnK.nil _ _, rfl, Grow.refl _ _⟩
  case round =>
    obtain ⟨k, ax, nx, qx, ps1, rfl, rfl, hk, HI⟩ := hrel
    have HBl : Hid (Below W0.heap.size W0 wr) := HI.out.2.2.below (Nat.le_refl _) (fun k e => by cases e)
    by_cases hlt : k < t.length
    · have hki : (k : Int) < (t.length : Int) := by omega
      obtain ⟨b, o, a1, n1, q1, rfl, _, hb, _, c0, k1⟩ := HA.out.item (Stays.of_below (Below.trans HW0.out.1 (HBl.out.mono HW0.out.1.size)) (Nat.le_refl _)) k hlt
      have hft := flatTs_take t k hlt
      have hftl := flatTs_take_len t (k + 1)
      have hl1 : ps1.length = (flatTs (t.take k)).length := by rw [← HI.out.2.1, List.length_map]
      have hlb : ps1.length + St.sizes t[k] ≤ 1073741824 := by
        have := HN.out.1
        rw [hft, List.length_append, St.flats_len] at hftl
        omega
      have hwk := HN.out.2 _ (List.getElem_mem hlt)
      have P : Hid (Calls Try.prog 24 #[.slice ax nx qx, .slice a1 n1 q1] wr fun r w' => ∃ a8 n8 q8 ps', r = .returned (.slice a8 n8 q8) ∧ Hid (OwnK w' W0.heap.size (Far W0.heap.size w' (.slice a8 n8 q8)) ps' (.slice a8 n8 q8) ∧ ps'.map (·.s) = flatTs (t.take (k + 1)) ∧ Grow W0 w' (.slice none 0 0) (.slice a8 n8 q8))) := by
        refine (appendBlock_any t[k] wr W0.heap.size ps1 _ _ HI.out.1 (k1.mono (Rng.up (Nat.le_refl _) HW0.out.1.size)) hlb hwk).mono ?_
        rintro r w6 ⟨v6, ps6, rfl, ho6, hm6, hg6⟩
        obtain ⟨a8, q8, rfl, -⟩ := own_slice ho6.row
        exact ⟨a8, _, q8, ps6, rfl, ho6, by rw [hm6, HI.out.2.1, hft], HI.out.2.2.trans hg6⟩
      clear hft hftl hl1 hlb hwk k1
      go_wp2_with fail
      refine Calls.mono P.out ?_
      rintro r w6 ⟨a8, n8, q8, ps6, rfl, HS⟩
      go_wp2_with fail
      go_roundw
      case rel => exact ⟨k + 1, _, _, _, ps6, rfl, by go_num, by omega, HS⟩
      case measure => simp [intOf]; omega
    · have hki : ¬ (k : Int) < (t.length : Int) := by omega
      have HM : Hid (StsIn wr w.heap.size wr.heap.size (flatTs t) (.slice ax nx qx) ∧ Kept w wr) := by
        have h1 := HI.out.2.1
        rw [List.take_of_length_le (by omega)] at h1
        have hz := HW0.out.1.size
        refine ⟨?_, Below.trans HW0.out.1 (HBl.out.mono hz)⟩
        have := HI.out.1.sts (D' := Rng w.heap.size wr.heap.size) (fun i hi => ⟨by have := hi.1; omega, hi.2.1⟩) (fun i hi => by have := HI.out.1.row.lt i hi; exact ⟨by omega, this.2⟩)
        rwa [h1] at this
      go_wp2_with fail
      go_ret
      exact ⟨_, rfl, HM.out.1, HM.out.2⟩
#print axioms list_any
end Go.Proofs.Ytoaaikbplnpmmaa
