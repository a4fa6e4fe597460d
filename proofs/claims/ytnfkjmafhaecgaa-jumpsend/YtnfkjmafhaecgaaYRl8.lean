/- Rl8 -/
import Derived.Test.YtnfkjmafhaecgaaYBs

namespace Go.Proofs.Ytnfkjmafhaecgaa
open Go.RowKit
attribute [local go_sem] run_store_complex
theorem rlmap_len {ps : List Item} {l : List St} (h : ps.map (·.s) = l) : ps.length = l.length := by rw [← h, List.length_map]
def flatTs : List (List St) → List St
  | [] => []
  | a :: l => St.flats a ++ flatTs l
theorem flatTs_append (l m : List (List St)) : flatTs (l ++ m) = flatTs l ++ flatTs m := by
  induction l with
  | nil => rfl
  | cons a l ih => simp [flatTs, ih]
theorem flatTs_take (l : List (List St)) (k : Nat) (h : k < l.length) : flatTs (l.take (k + 1)) = flatTs (l.take k) ++ St.flats l[k] := by
  rw [List.take_succ_eq_append_getElem h, flatTs_append]; simp [flatTs]
theorem flatTs_take_len (l : List (List St)) (k : Nat) : (flatTs (l.take k)).length ≤ (flatTs l).length := by
  have := flatTs_append (l.take k) (l.drop k)
  rw [List.take_append_drop] at this
  rw [this, List.length_append]; omega
/-- What the reference's block answers at l. -/
def PRk (l : List St) : Prop := ∀ (w : World) (hi : Nat) (bv : Value), hi ≤ w.heap.size → StsIn w 0 hi l bv → St.sizes l ≤ 1073741824 →
  Calls Try.prog 35 #[bv] w fun r w' => ∃ v' ps', r = .returned v' ∧ OwnK w' w.heap.size (Rng 0 hi) ps' v' ∧ ps'.map (·.s) = St.flats l ∧ Kept w w'
/-- Behind an append of what lies low. -/
theorem rb_app {w0 W w' : World} {hi : Nat} {ps qs : List Item} {v v' : Value} (hh : hi ≤ w0.heap.size) (h : OwnK W w0.heap.size (Rng 0 hi) ps v) (k : Kept w0 W) (hq : ∀ p ∈ qs, p.InD W (Rng 0 hi)) (hG : Grew W w0.heap.size 46 11 v ps.length (itCells ps) qs.length (itCells qs) v' w') :
    OwnK w' w0.heap.size (Rng 0 hi) (ps ++ qs) v' ∧ Kept w0 w' :=
  ⟨h.grewLow hh hq hG, hG.below h.row (Nat.le_refl _) h.le k⟩
theorem own_len {ps : List Item} {l : List St} (h : ps.map (·.s) = l) : ps.length = l.length := rlmap_len h
set_option maxRecDepth 100000 in
set_option maxHeartbeats 2000000 in
theorem rlblock_of (l : List St) (H : ∀ x ∈ l, PRk x.body ∧ PRk x.els) : PRk l := by
  intro w hi bv hh hb hn
  have HA : Hid _ := hb
  have HH : Hid (∀ x ∈ l, PRk x.body ∧ PRk x.els) := H
  obtain ⟨a, cap, rfl, hl, hl2, hcap⟩ := hb.open
  clear hb H
  go_enter Try.func35, Try.ntmps35
  go_wp2_with fail
  go_loopw [3, 4] (fun list i wr => ∃ (k : Nat) (a1 : Option Addr) (n1 q1 : Nat) (ps1 : List Item), list = .slice a1 n1 q1 ∧ i = .int .i64 (k : Int) ∧ k ≤ l.length ∧ Hid (OwnK wr w.heap.size (Rng 0 hi) ps1 (.slice a1 n1 q1) ∧ ps1.map (·.s) = St.flats (l.take k) ∧ Kept w wr)) (fun _ i _ => l.length - (intOf i).toNat)
  case atStart => exact ⟨0, _, _, _, [], rfl, rfl, Nat.zero_le _, OwnK.nil _ _, rfl, Kept.refl _⟩
  case round =>
    obtain ⟨k, ax, nx, qx, ps1, rfl, rfl, hk, HI⟩ := hrel
    by_cases hlt : k < l.length
    · have hki : (k : Int) < (l.length : Int) := by omega
      have hz := HI.out.2.2.size
      obtain ⟨b, o, a1, n1, q1, a2, n2, q2, a3, n3, q3, rfl, _, hb, _, c0, c1, c2, c3, c4, c5, c6, c7, c8, c9, c10, k1, k2, k3⟩ := HA.out.item (HI.out.2.2.stays hh) k hlt
      have hzb : b < wr.heap.size := by omega
      have K : Hid (Item.InD wr (Rng 0 hi) ⟨l[k], .slice a1 n1 q1, .slice a2 n2 q2, .slice a3 n3 q3⟩) := ⟨k1, k2, k3⟩
      have hlen1 : ps1.length = St.sizes (l.take k) := by rw [own_len HI.out.2.1, St.flats_len]
      have hst := St.sizes_take l k hlt
      have hstl := St.sizes_take_le l (k + 1)
      have hle : ps1.length + 1 + (St.sizes l[k].body + St.sizes l[k].els) ≤ 1073741824 := by omega
      have hpl : ps1.length ≤ 1073741823 := by omega
      have HLE : Hid (ps1.length + 1 + (St.sizes l[k].body + St.sizes l[k].els) ≤ 1073741824) := hle
      clear k1 k2 k3 hlen1 hst hstl hle
      have HOW : Hid (OwnK (wr.alloc (.cells #[.int .i64 l[k].kind, .string l[k].name, .string l[k].other, .int .i64 l[k].n, .int .i64 l[k].e.kind, .int .i64 l[k].e.n, .string l[k].e.name, .slice a1 n1 q1, .slice a2 n2 q2, .slice a3 n3 q3, .complex .f64 l[k].re l[k].im] 46)) w.heap.size (Rng 0 hi) ps1 (.slice ax nx qx)) :=
        HI.out.1.kept ((Kept.refl wr).al _) fun i h => by have := h.2; omega
      go_wp2_with (at_builtin; refine wpList_append_rows (base := w.heap.size) (n := ps1.length) (xs := itCells ps1) (by rfl) _ _ _ (by rfl) elemSt (by rfl) HOW.out.row (by rfl) (own_lit 0 46 11 _ (by rfl) (Nat.zero_le _)) ?one (by omega) ?len HOW.out.le ?_)
      case one => exact ⟨rfl, rfl, rfl, rfl, rfl, rfl, rfl, rfl, rfl, rfl, rfl⟩
      case len => unfold maxLen; omega
      intro ad2 cap2 w2 HG
      have h2 := rb_app (qs := [⟨l[k], .slice a1 n1 q1, .slice a2 n2 q2, .slice a3 n3 q3⟩]) hh HOW.out (HI.out.2.2.al _) (fun p hp => by
        obtain rfl : p = _ := by simpa using hp
        exact K.out.stays (((Kept.refl wr).al _).stays (by omega))) (by rw [itCells_one]; exact HG.out)
      obtain ⟨ps2, hps2⟩ : ∃ ps2, ps1 ++ [(⟨l[k], .slice a1 n1 q1, .slice a2 n2 q2, .slice a3 n3 q3⟩ : Item)] = ps2 := ⟨_, rfl⟩
      rw [hps2] at h2
      have hl2' : ps2.length = ps1.length + 1 := by rw [← hps2]; simp
      have HM2 : Hid (ps2.map (·.s) = ps1.map (·.s) ++ [l[k]]) := by show _ = _; rw [← hps2]; simp
      have HLE2 : Hid (ps2.length + (St.sizes l[k].body + St.sizes l[k].els) ≤ 1073741824) := by rw [hl2']; exact HLE.out
      have HI2 : Hid (OwnK w2 w.heap.size (Rng 0 hi) ps2 (.slice ad2 (ps1.length + 1) cap2) ∧ Kept w w2) := h2
      have e8 : w2.cell? ⟨b, o + k * 11 + 8, none⟩ = some (.slice a2 n2 q2) := (h2.2.cell (by simp; omega)).trans ((HI.out.2.2.cell (by simp; omega)).symm.trans c8)
      have hz2 := h2.2.size
      have HK2 : Hid (Item.InD w2 (Rng 0 hi) ⟨l[k], .slice a1 n1 q1, .slice a2 n2 q2, .slice a3 n3 q3⟩) := K.out.stays fun i hi' => (h2.2.block i (by have := hi'.2; omega)).trans (HI.out.2.2.block i (by have := hi'.2; omega)).symm
      have P2 : Hid (Calls Try.prog 35 #[.slice a2 n2 q2] w2 fun r w' => ∃ a7 n7 q7 ps', r = .returned (.slice a7 n7 q7) ∧ Hid (OwnK w' w2.heap.size (Rng 0 hi) ps' (.slice a7 n7 q7) ∧ ps'.map (·.s) = St.flats l[k].body ∧ Kept w2 w')) := by
        refine ((HH.out _ (List.getElem_mem hlt)).1 w2 hi _ (by omega) HK2.out.b (by have := HLE.out; omega)).mono ?_
        rintro r w5 ⟨v5, ps5, rfl, ho5, hm5, hg5⟩
        obtain ⟨a7, q7, rfl, -⟩ := own_slice ho5.row
        exact ⟨a7, _, q7, ps5, rfl, ho5, hm5, hg5⟩
      clear h2 hps2 HG HOW hl2'
      go_wp2_with fail
      refine Calls.mono P2.out ?_
      rintro r w3 ⟨a7, n7, q7, ps3, rfl, HS⟩
      have hl3 : ps3.length = St.sizes l[k].body := by rw [own_len HS.out.2.1, St.flats_len]
      have HOW3 : Hid (OwnK w3 w.heap.size (Rng 0 hi) ps2 (.slice ad2 (ps1.length + 1) cap2)) := HI2.out.1.kept HS.out.2.2 fun i h => by have := h.2; omega
      have hb3 : ps2.length + ps3.length ≤ 1073741824 := by have := HLE2.out; omega
      have HL3 : Hid (ps3.length = St.sizes l[k].body) := hl3
      clear hl3
      go_wp2_with (at_builtin; refine wpList_append_rows (base := w.heap.size) (n := ps2.length) (xs := itCells ps2) (by rfl) _ _ _ (by rfl) elemSt (by rfl) HOW3.out.row (by rfl) HS.out.1.row (itCells_one' ps3 HS.out.1.kids) (by omega) ?len HOW3.out.le ?_)
      case len => unfold maxLen; omega
      intro ad4 cap4 w4 HG4
      have h4 := rb_app hh HOW3.out (HI2.out.2.then HS.out.2.2) HS.out.1.kids HG4.out
      obtain ⟨ps4, hps4⟩ : ∃ ps4, ps2 ++ ps3 = ps4 := ⟨_, rfl⟩
      rw [hps4] at h4
      have HM4 : Hid (ps4.map (·.s) = ps2.map (·.s) ++ St.flats l[k].body) := by show _ = _; rw [← hps4, List.map_append, HS.out.2.1]
      have hl4 : ps4.length = ps2.length + ps3.length := by rw [← hps4, List.length_append]
      have HI4 : Hid (OwnK w4 w.heap.size (Rng 0 hi) ps4 (.slice ad4 (ps2.length + ps3.length) cap4) ∧ Kept w w4) := h4
      have e9 : w4.cell? ⟨b, o + k * 11 + 9, none⟩ = some (.slice a3 n3 q3) := (h4.2.cell (by simp; omega)).trans ((HI.out.2.2.cell (by simp; omega)).symm.trans c9)
      have hz4 := h4.2.size
      have HK4 : Hid (Item.InD w4 (Rng 0 hi) ⟨l[k], .slice a1 n1 q1, .slice a2 n2 q2, .slice a3 n3 q3⟩) := K.out.stays fun i hi' => (h4.2.block i (by have := hi'.2; omega)).trans (HI.out.2.2.block i (by have := hi'.2; omega)).symm
      have P4 : Hid (Calls Try.prog 35 #[.slice a3 n3 q3] w4 fun r w' => ∃ a7 n7 q7 ps', r = .returned (.slice a7 n7 q7) ∧ Hid (OwnK w' w4.heap.size (Rng 0 hi) ps' (.slice a7 n7 q7) ∧ ps'.map (·.s) = St.flats l[k].els ∧ Kept w4 w')) := by
        refine ((HH.out _ (List.getElem_mem hlt)).2 w4 hi _ (by omega) HK4.out.l (by have := HLE.out; omega)).mono ?_
        rintro r w5 ⟨v5, ps5, rfl, ho5, hm5, hg5⟩
        obtain ⟨a7, q7, rfl, -⟩ := own_slice ho5.row
        exact ⟨a7, _, q7, ps5, rfl, ho5, hm5, hg5⟩
      have hb4 : ps4.length + St.sizes l[k].els ≤ 1073741824 := by have := HLE2.out; have := HL3.out; omega
      have HB4 : Hid (ps4.length + St.sizes l[k].els ≤ 1073741824 ∧ ps2.length + ps3.length = ps4.length) := ⟨hb4, hl4.symm⟩
      clear h4 hps4 HG4 HOW3 hb4 hl4 hb3
      go_wp2_with fail
      refine Calls.mono P4.out ?_
      rintro r w5 ⟨a9, n9, q9, ps5, rfl, HS5⟩
      have hl5 : ps5.length = St.sizes l[k].els := by rw [own_len HS5.out.2.1, St.flats_len]
      have HOW5 : Hid (OwnK w5 w.heap.size (Rng 0 hi) ps4 (.slice ad4 (ps2.length + ps3.length) cap4)) := HI4.out.1.kept HS5.out.2.2 fun i h => by have := h.2; omega
      have hb5 : ps4.length + ps5.length ≤ 1073741824 := by have := HB4.out.1; omega
      clear hl5
      go_wp2_with (at_builtin; refine wpList_append_rows (base := w.heap.size) (n := ps4.length) (xs := itCells ps4) (by rfl) _ _ _ (by rfl) elemSt (by rfl) HOW5.out.row (by rfl) HS5.out.1.row (itCells_one' ps5 HS5.out.1.kids) (by omega) ?len HOW5.out.le ?_)
      case len => unfold maxLen; omega
      intro ad6 cap6 w6 HG6
      have HI6 : Hid (OwnK w6 w.heap.size (Rng 0 hi) (ps4 ++ ps5) (.slice ad6 (ps4.length + ps5.length) cap6) ∧ Kept w w6) := rb_app hh HOW5.out (HI4.out.2.then HS5.out.2.2) HS5.out.1.kids HG6.out
      have HM6 : Hid ((ps4 ++ ps5).map (·.s) = St.flats (l.take (k + 1))) := by
        show _ = _
        rw [List.map_append, HM4.out, HM2.out, HI.out.2.1, HS5.out.2.1, St.flats_take l k hlt]
        simp
      clear HG6 HOW5 hb5
      go_wp2_with fail
      go_roundw
      case rel => exact ⟨k + 1, _, _, _, ps4 ++ ps5, rfl, by go_num, by omega, HI6.out.1, HM6.out, HI6.out.2⟩
      case measure => simp [intOf]; omega
    · have hki : ¬ (k : Int) < (l.length : Int) := by omega
      have HM : Hid (ps1.map (·.s) = St.flats l) := by
        have := HI.out.2.1
        rwa [List.take_of_length_le (by omega)] at this
      go_wp2_with fail
      go_ret
      exact ⟨_, rfl, ps1, HI.out.1, HM.out, HI.out.2.2⟩
theorem rlblock_any (l : List St) : PRk l :=
  rlblock_of l fun x _ => St.ind (P := fun x => PRk x.body ∧ PRk x.els) (fun s hb hl => ⟨rlblock_of s.body hb, rlblock_of s.els hl⟩) x
set_option maxRecDepth 100000 in
set_option maxHeartbeats 2000000 in
theorem rlist_any (d : List Dc) (t : List (List St)) (w : World) (dv tv : Value) (hd : DsIn w 0 w.heap.size d dv) (ht : TsIn w 0 w.heap.size t tv) (hn : (flatTs t).length ≤ 1073741824) :
    Calls Try.prog 12 #[.agg #[dv, tv]] w fun r w' => ∃ v', r = .returned v' ∧ StsIn w' 0 w'.heap.size (flatTs t) v' ∧ Kept w w' := by
  have HA : Hid _ := ht
  obtain ⟨ad, capd, rfl, -⟩ := hd.open
  obtain ⟨a, cap, rfl, hl, hl2, hcap⟩ := ht.open
  clear hd ht
  go_enter Try.func12, Try.ntmps12
  go_wp2_with fail
  obtain ⟨W0, hW0⟩ : ∃ W0, w.alloc (.cells #[.slice ad d.length capd, .slice a t.length cap] 27) = W0 := ⟨_, rfl⟩
  have HW0 : Hid (Kept w W0 ∧ W0.heap.size = w.heap.size + 1 ∧ W0.cell? ⟨w.heap.size, 1, none⟩ = some (.slice a t.length cap)) := by rw [← hW0]; exact ⟨(Kept.refl _).al _, by simp, by simp⟩
  rw [hW0]
  clear hW0
  go_loopw [3, 4] (fun list i wr => ∃ (k : Nat) (a1 : Option Addr) (n1 q1 : Nat) (ps1 : List Item), list = .slice a1 n1 q1 ∧ i = .int .i64 (k : Int) ∧ k ≤ t.length ∧ Hid (OwnK wr W0.heap.size (Rng 0 w.heap.size) ps1 (.slice a1 n1 q1) ∧ ps1.map (·.s) = flatTs (t.take k) ∧ Kept W0 wr)) (fun _ i _ => t.length - (intOf i).toNat)
  case atStart => exact ⟨0, _, _, _, [], rfl, rfl, Nat.zero_le _, OwnK.nil _ _, rfl, Kept.refl _⟩
  case round =>
    obtain ⟨k, ax, nx, qx, ps1, rfl, rfl, hk, HI⟩ := hrel
    have hz := HI.out.2.2.size
    have hzw := HW0.out.1.size
    have b1 : wr.cell? ⟨w.heap.size, 1, none⟩ = some (.slice a t.length cap) := HI.out.2.2.cellS HW0.out.2.2
    by_cases hlt : k < t.length
    · have hki : (k : Int) < (t.length : Int) := by omega
      obtain ⟨b, o, a1, n1, q1, rfl, _, hb, _, c0, k1⟩ := HA.out.item ((HW0.out.1.then HI.out.2.2).stays (Nat.le_refl _)) k hlt
      have hft := flatTs_take t k hlt
      have hftl := flatTs_take_len t (k + 1)
      have hl1 : ps1.length = (flatTs (t.take k)).length := by rw [← HI.out.2.1, List.length_map]
      have hlb : ps1.length + St.sizes t[k] ≤ 1073741824 := by
        rw [hft, List.length_append, St.flats_len] at hftl
        omega
      have HLB : Hid (ps1.length + St.sizes t[k] ≤ 1073741824) := hlb
      have P : Hid (Calls Try.prog 35 #[.slice a1 n1 q1] wr fun r w' => ∃ a8 n8 q8 ps', r = .returned (.slice a8 n8 q8) ∧ Hid (OwnK w' wr.heap.size (Rng 0 w.heap.size) ps' (.slice a8 n8 q8) ∧ ps'.map (·.s) = St.flats t[k] ∧ Kept wr w')) := by
        refine (rlblock_any t[k] wr w.heap.size _ (by omega) k1 (by omega)).mono ?_
        rintro r w6 ⟨v6, ps6, rfl, ho6, hm6, hg6⟩
        obtain ⟨a8, q8, rfl, -⟩ := own_slice ho6.row
        exact ⟨a8, _, q8, ps6, rfl, ho6, hm6, hg6⟩
      clear hft hftl hl1 hlb k1
      go_wp2_with fail
      refine Calls.mono P.out ?_
      rintro r w3 ⟨a8, n8, q8, ps3, rfl, HS⟩
      have hl3 : ps3.length = St.sizes t[k] := by rw [own_len HS.out.2.1, St.flats_len]
      have hb3 : ps1.length + ps3.length ≤ 1073741824 := by have := HLB.out; omega
      have HOW3 : Hid (OwnK w3 W0.heap.size (Rng 0 w.heap.size) ps1 (.slice ax nx qx)) := HI.out.1.kept HS.out.2.2 fun i h => by have := h.2; omega
      clear hl3
      go_wp2_with (at_builtin; refine wpList_append_rows (base := W0.heap.size) (n := ps1.length) (xs := itCells ps1) (by rfl) _ _ _ (by rfl) elemSt (by rfl) HOW3.out.row (by rfl) HS.out.1.row (itCells_one' ps3 HS.out.1.kids) (by omega) ?len HOW3.out.le ?_)
      case len => unfold maxLen; omega
      intro ad4 cap4 w4 HG4
      have HI4 : Hid (OwnK w4 W0.heap.size (Rng 0 w.heap.size) (ps1 ++ ps3) (.slice ad4 (ps1.length + ps3.length) cap4) ∧ Kept W0 w4) := rb_app hzw HOW3.out (HI.out.2.2.then HS.out.2.2) HS.out.1.kids HG4.out
      have HM4 : Hid ((ps1 ++ ps3).map (·.s) = flatTs (t.take (k + 1))) := by
        show _ = _
        rw [List.map_append, HI.out.2.1, HS.out.2.1, flatTs_take t k hlt]
      clear HG4 HOW3 hb3
      go_wp2_with fail
      go_roundw
      case rel => exact ⟨k + 1, _, _, _, ps1 ++ ps3, rfl, by go_num, by omega, HI4.out.1, HM4.out, HI4.out.2⟩
      case measure => simp [intOf]; omega
    · have hki : ¬ (k : Int) < (t.length : Int) := by omega
      have HM : Hid (StsIn wr 0 wr.heap.size (flatTs t) (.slice ax nx qx) ∧ Kept w wr) := by
        have h1 := HI.out.2.1
        rw [List.take_of_length_le (by omega)] at h1
        refine ⟨?_, HW0.out.1.then HI.out.2.2⟩
        have := HI.out.1.sts (D' := Rng 0 wr.heap.size) (fun i hi => ⟨Nat.zero_le _, by have := hi.2; omega⟩) (fun i hi => by have := HI.out.1.row.lt i hi; exact ⟨Nat.zero_le _, this.2⟩)
        rwa [h1] at this
      go_wp2_with fail
      go_ret
      exact ⟨_, rfl, HM.out.1, HM.out.2⟩
end Go.Proofs.Ytnfkjmafhaecgaa
