/- The reference's Names; texts that are alike. -/
import Derived.Test.YtoaaikbplnpmmaaNm
import Derived.Deep.QuietTactic
import Derived.BigQuiet
namespace Go.Proofs.Ytoaaikbplnpmmaa
open Go.RowKit
attribute [local go_sem] run_store_complex

theorem OwnT.low {w : World} {base b : Nat} {xs : List ByteArray} {v : Value} (h : OwnT w base xs v) (hb : b ≤ base) : OwnT w b xs v :=
  ⟨⟨h.row.1, h.row.2.imp id fun ⟨g, c, cu, h1, h2, h3⟩ => ⟨g, c, cu, h1, Nat.le_trans hb h2, h3⟩⟩, Nat.le_trans hb h.le⟩

/-- What the reference's Names answers at e. -/
def PRn (e : Ex) : Prop := ∀ (w : World) (va : Value), ExsIn w 0 w.heap.size e.of va → e.size ≤ 1073741824 →
  Calls Try.prog 22 #[e.val va] w fun r w' => ∃ v', r = .returned v' ∧ OwnT w' w.heap.size e.names v' ∧ Kept w w'

set_option maxRecDepth 100000 in
set_option maxHeartbeats 2000000 in
theorem rnames_of (e : Ex) (H : ∀ y ∈ e.of, PRn y) : PRn e := by
  intro w va ha hn
  have HA : Hid _ := ha
  have HH : Hid (∀ y ∈ e.of, PRn y) := H
  have hse := Ex.size_eq e
  have hol := Ex.own_len e
  obtain ⟨a, cap, rfl, hl, hl2, hcap⟩ := ha.open
  have HN : Hid (1 + Ex.sizes e.of ≤ 1073741824) := by show _ ≤ _; omega
  clear ha H hn hse
  unfold Ex.val
  cases hk2 : (e.kind == 2) with
  | true =>
    have HOwn : Hid (e.own = [e.name]) := by unfold Ex.own; rw [if_pos (by simpa using hk2)]; rfl
    go_enter Try.func22, Try.ntmps22
    go_wp2_with (at_builtin; refine wpList_append_rows (base := w.heap.size + 1) (n := 0) (xs := []) (by rfl) _ _ _ (by rfl) elemStr (by rfl) ⟨rfl, .inl ⟨rfl, rfl⟩⟩ (by rfl) (own_lit' 0 9 1 _ (by rfl) (Nat.zero_le _) (w.heap.size + 1) (by simp)) ?one (by omega) ?len ?base ?_)
    case one => rfl
    case len => unfold maxLen; omega
    case base => simp
    intro ad2 cap2 W HG
    have HB3 : Hid (W.cell? ⟨w.heap.size, 3, none⟩ = some (.slice a e.of.length cap)) := HG.out.grown.cell (((Kept.refl _).al _).cellS (by simp)) (by simp [Value.ownBlock])
    have HI0 : Hid (OwnT W (w.heap.size + 1) [e.name] (.slice ad2 (0 + 1) cap2) ∧ [e.name] = e.own ∧ Kept w W) :=
      ⟨⟨HG.out.own, Nat.le_trans (by simp) HG.out.grown.size⟩, HOwn.out.symm, (Grow.kept (.slice none 0 0) (((Kept.refl w).al _).al _) |>.trans HG.out.grow).below (Nat.le_refl _) (fun k h => by cases h)⟩
    obtain ⟨ys, hys⟩ : ∃ ys, [e.name] = ys := ⟨_, rfl⟩
    rw [hys] at HI0
    clear hys HG
    go_wp2_with fail
    go_loopw [3, 4] (fun list i wr => ∃ (k : Nat) (a1 : Option Addr) (n1 q1 : Nat) (zs : List ByteArray), list = .slice a1 n1 q1 ∧ i = .int .i64 (k : Int) ∧ k ≤ e.of.length ∧ Hid (OwnT wr (w.heap.size + 1) zs (.slice a1 n1 q1) ∧ zs = ys ++ Ex.namesL (e.of.take k) ∧ Below (w.heap.size + 1) W wr)) (fun _ i _ => e.of.length - (intOf i).toNat)
    case atStart => exact ⟨0, _, _, _, ys, rfl, rfl, Nat.zero_le _, HI0.out.1, by simp [Ex.namesL], Below.refl _ _⟩
    case round =>
      obtain ⟨k, ax, nx, qx, zs, rfl, rfl, hk, HI⟩ := hrel
      have hbr := HI.out.1.le
      have hwz := HI0.out.2.2.size
      have KWr : Hid (Kept w wr) := Below.trans HI0.out.2.2 (HI.out.2.2.mono (by omega))
      have b3 : wr.cell? ⟨w.heap.size, 3, none⟩ = some (.slice a e.of.length cap) := (HI.out.2.2.cell (by simp)).trans HB3.out
      by_cases hlt : k < e.of.length
      · have hki : (k : Int) < (e.of.length : Int) := by omega
        obtain ⟨b, o, a1, n1, q1, rfl, _, hb, _, c0, c1, c2, c3, k1⟩ := HA.out.item (KWr.out.stays (Nat.le_refl _)) k hlt
        have hzb : b < wr.heap.size := by omega
        have hst := Ex.sizes_take e.of k hlt
        have hstl := Ex.sizes_take_le e.of (k + 1)
        have hnl := Ex.namesL_len (e.of.take k)
        have hnn := Ex.names_len e.of[k]
        have hzl : zs.length + e.of[k].size ≤ 1073741824 := by
          have h1 := HI.out.2.1
          have h2 := HI0.out.2.1
          have := HN.out
          rw [h1, h2, List.length_append]; omega
        have P : Hid (Calls Try.prog 22 #[.agg #[.int .i64 e.of[k].kind, .int .i64 e.of[k].n, .string e.of[k].name, .slice a1 n1 q1]] wr fun r w' => ∃ a8 n8 q8, r = .returned (.slice a8 n8 q8) ∧ Hid (OwnT w' wr.heap.size e.of[k].names (.slice a8 n8 q8) ∧ Kept wr w')) := by
          refine (HH.out _ (List.getElem_mem hlt) wr _ (k1.up (by omega) (Kept.refl _)) (by omega)).mono ?_
          rintro r w6 ⟨v6, rfl, ho6, hg6⟩
          obtain ⟨a8, q8, rfl, -⟩ := own_slice ho6.row
          exact ⟨a8, _, q8, rfl, ho6, hg6⟩
        have HM : Hid (zs ++ e.of[k].names = ys ++ Ex.namesL (e.of.take (k + 1))) := by show _ = _; rw [HI.out.2.1, Ex.namesL_take e.of k hlt, List.append_assoc]
        obtain ⟨us, hus⟩ : ∃ us, e.of[k].names = us := ⟨_, rfl⟩
        have hul : zs.length + us.length ≤ 1073741824 := by rw [← hus]; omega
        rw [hus] at P HM
        clear hst hstl hnl hzl k1 hnn hus
        go_wp2_with fail
        refine Calls.mono P.out ?_
        rintro r w6 ⟨a8, n8, q8, rfl, HS⟩
        have HO6 : Hid (OwnT w6 (w.heap.size + 1) zs (.slice ax nx qx)) := HI.out.1.kept HS.out.2
        go_wp2_with (at_builtin; refine wpList_append_rows (base := w.heap.size + 1) (n := zs.length) (xs := strs zs) (by rfl) _ _ _ (by rfl) elemStr (by rfl) HO6.out.row (by rfl) HS.out.1.row (strs_one us) (by omega) ?len HO6.out.le ?_)
        case len => unfold maxLen; omega
        intro ad7 cap7 w7 HG
        have HI7 : Hid (OwnT w7 (w.heap.size + 1) (zs ++ us) (.slice ad7 (zs.length + us.length) cap7) ∧ Below (w.heap.size + 1) W w7) :=
          ⟨HO6.out.grew HG.out, HG.out.below HO6.out.row (Nat.le_refl _) HO6.out.le (HI.out.2.2.trans (HS.out.2.mono (by omega)))⟩
        clear HG
        go_wp2_with fail
        go_roundw
        case rel => exact ⟨k + 1, _, _, _, _, rfl, by go_num, by omega, HI7.out.1, HM.out, HI7.out.2⟩
        case measure => simp [intOf]; omega
      · have hki : ¬ (k : Int) < (e.of.length : Int) := by omega
        have HM : Hid (zs = e.names) := by
          have h1 := HI.out.2.1
          have h2 := HI0.out.2.1
          rw [List.take_of_length_le (by omega)] at h1
          show _ = _
          rw [h1, h2, Ex.names_own]
        go_wp2_with fail
        go_ret
        exact ⟨_, rfl, by rw [← HM.out]; exact HI.out.1.low (by omega), KWr.out⟩
  | false =>
    have HOwn : Hid (e.own = []) := by unfold Ex.own; rw [if_neg (by simpa using hk2)]; rfl
    go_enter Try.func22, Try.ntmps22
    go_wp2_with fail
    obtain ⟨ys, hys⟩ : ∃ ys : List ByteArray, [] = ys := ⟨_, rfl⟩
    obtain ⟨W, hW⟩ : ∃ W, w.alloc (.cells #[.int .i64 e.kind, .int .i64 e.n, .string e.name, .slice a e.of.length cap] 24) = W := ⟨_, rfl⟩
    have HB3 : Hid (W.cell? ⟨w.heap.size, 3, none⟩ = some (.slice a e.of.length cap)) := by rw [← hW]; show _ = _; simp
    have HI0 : Hid (OwnT W (w.heap.size + 1) ys (.slice none 0 0) ∧ ys = e.own ∧ Kept w W) := by
      rw [← hys, ← hW]
      exact ⟨⟨⟨rfl, .inl ⟨rfl, rfl⟩⟩, by simp⟩, HOwn.out.symm, (Kept.refl w).al _⟩
    rw [hW]
    clear hys hW
    go_loopw [3, 4] (fun list i wr => ∃ (k : Nat) (a1 : Option Addr) (n1 q1 : Nat) (zs : List ByteArray), list = .slice a1 n1 q1 ∧ i = .int .i64 (k : Int) ∧ k ≤ e.of.length ∧ Hid (OwnT wr (w.heap.size + 1) zs (.slice a1 n1 q1) ∧ zs = ys ++ Ex.namesL (e.of.take k) ∧ Below (w.heap.size + 1) W wr)) (fun _ i _ => e.of.length - (intOf i).toNat)
    case atStart => exact ⟨0, _, _, _, ys, rfl, rfl, Nat.zero_le _, HI0.out.1, by simp [Ex.namesL], Below.refl _ _⟩
    case round =>
      obtain ⟨k, ax, nx, qx, zs, rfl, rfl, hk, HI⟩ := hrel
      have hbr := HI.out.1.le
      have hwz := HI0.out.2.2.size
      have KWr : Hid (Kept w wr) := Below.trans HI0.out.2.2 (HI.out.2.2.mono (by omega))
      have b3 : wr.cell? ⟨w.heap.size, 3, none⟩ = some (.slice a e.of.length cap) := (HI.out.2.2.cell (by simp)).trans HB3.out
      by_cases hlt : k < e.of.length
      · have hki : (k : Int) < (e.of.length : Int) := by omega
        obtain ⟨b, o, a1, n1, q1, rfl, _, hb, _, c0, c1, c2, c3, k1⟩ := HA.out.item (KWr.out.stays (Nat.le_refl _)) k hlt
        have hzb : b < wr.heap.size := by omega
        have hst := Ex.sizes_take e.of k hlt
        have hstl := Ex.sizes_take_le e.of (k + 1)
        have hnl := Ex.namesL_len (e.of.take k)
        have hnn := Ex.names_len e.of[k]
        have hzl : zs.length + e.of[k].size ≤ 1073741824 := by
          have h1 := HI.out.2.1
          have h2 := HI0.out.2.1
          have := HN.out
          rw [h1, h2, List.length_append]; omega
        have P : Hid (Calls Try.prog 22 #[.agg #[.int .i64 e.of[k].kind, .int .i64 e.of[k].n, .string e.of[k].name, .slice a1 n1 q1]] wr fun r w' => ∃ a8 n8 q8, r = .returned (.slice a8 n8 q8) ∧ Hid (OwnT w' wr.heap.size e.of[k].names (.slice a8 n8 q8) ∧ Kept wr w')) := by
          refine (HH.out _ (List.getElem_mem hlt) wr _ (k1.up (by omega) (Kept.refl _)) (by omega)).mono ?_
          rintro r w6 ⟨v6, rfl, ho6, hg6⟩
          obtain ⟨a8, q8, rfl, -⟩ := own_slice ho6.row
          exact ⟨a8, _, q8, rfl, ho6, hg6⟩
        have HM : Hid (zs ++ e.of[k].names = ys ++ Ex.namesL (e.of.take (k + 1))) := by show _ = _; rw [HI.out.2.1, Ex.namesL_take e.of k hlt, List.append_assoc]
        obtain ⟨us, hus⟩ : ∃ us, e.of[k].names = us := ⟨_, rfl⟩
        have hul : zs.length + us.length ≤ 1073741824 := by rw [← hus]; omega
        rw [hus] at P HM
        clear hst hstl hnl hzl k1 hnn hus
        go_wp2_with fail
        refine Calls.mono P.out ?_
        rintro r w6 ⟨a8, n8, q8, rfl, HS⟩
        have HO6 : Hid (OwnT w6 (w.heap.size + 1) zs (.slice ax nx qx)) := HI.out.1.kept HS.out.2
        go_wp2_with (at_builtin; refine wpList_append_rows (base := w.heap.size + 1) (n := zs.length) (xs := strs zs) (by rfl) _ _ _ (by rfl) elemStr (by rfl) HO6.out.row (by rfl) HS.out.1.row (strs_one us) (by omega) ?len HO6.out.le ?_)
        case len => unfold maxLen; omega
        intro ad7 cap7 w7 HG
        have HI7 : Hid (OwnT w7 (w.heap.size + 1) (zs ++ us) (.slice ad7 (zs.length + us.length) cap7) ∧ Below (w.heap.size + 1) W w7) :=
          ⟨HO6.out.grew HG.out, HG.out.below HO6.out.row (Nat.le_refl _) HO6.out.le (HI.out.2.2.trans (HS.out.2.mono (by omega)))⟩
        clear HG
        go_wp2_with fail
        go_roundw
        case rel => exact ⟨k + 1, _, _, _, _, rfl, by go_num, by omega, HI7.out.1, HM.out, HI7.out.2⟩
        case measure => simp [intOf]; omega
      · have hki : ¬ (k : Int) < (e.of.length : Int) := by omega
        have HM : Hid (zs = e.names) := by
          have h1 := HI.out.2.1
          have h2 := HI0.out.2.1
          rw [List.take_of_length_le (by omega)] at h1
          show _ = _
          rw [h1, h2, Ex.names_own]
        go_wp2_with fail
        go_ret
        exact ⟨_, rfl, by rw [← HM.out]; exact HI.out.1.low (by omega), KWr.out⟩

theorem rnames_any (e : Ex) : PRn e := Ex.ind rnames_of e
#print axioms rnames_any

set_option maxRecDepth 100000 in
set_option maxHeartbeats 2000000 in
theorem sameTexts_any (l : List ByteArray) (w : World) (va vb : Value) (ha : ValsD w (Rng 0 w.heap.size) (strs l) va) (hb : ValsD w (Rng 0 w.heap.size) (strs l) vb) :
    Calls Try.prog 19 #[va, vb] w fun r w' => r = .returned (.bool true) ∧ Kept w w' := by
  have HA : Hid _ := ha
  have HB : Hid _ := hb
  obtain ⟨a, cap, rfl, hl, hl2, hcap⟩ := ha.open
  obtain ⟨a', cap', rfl, hl', hl2', hcap'⟩ := hb.open
  clear ha hb
  rw [strs_len] at HA HB hl hl2 hl2' ⊢
  have e1 : ((l.length : Int) != (l.length : Int)) = false := by simp
  go_enter Try.func19, Try.ntmps19
  go_wp2_with fail
  go_loopw [13] (fun i wr => ∃ k : Nat, i = .int .i64 (k : Int) ∧ k ≤ l.length ∧ Hid (Kept w wr)) (fun i _ => l.length - (intOf i).toNat)
  case atStart => exact ⟨0, rfl, Nat.zero_le _, Kept.refl _⟩
  case round =>
    obtain ⟨k, rfl, hk, HI⟩ := hrel
    by_cases hlt : k < l.length
    · have hki : (k : Int) < (l.length : Int) := by omega
      have hlt' : k < (strs l).length := by rw [strs_len]; exact hlt
      have he : (strs l)[k] = .string l[k] := by simp [strs]
      obtain ⟨b, o, rfl, hb, c0⟩ := (HA.out.stays (HI.out.stays (Nat.le_refl _))).itemD k hlt'
      obtain ⟨b', o', rfl, hb', d0⟩ := (HB.out.stays (HI.out.stays (Nat.le_refl _))).itemD k hlt'
      rw [he] at c0 d0
      have e2 : (l[k].toList == l[k].toList) = true := by simp
      clear he
      go_wp2_with fail
      go_quiet (fail)
      go_wp2_with fail
      go_roundw
      case rel => exact ⟨k + 1, by go_num, by omega, HI.out.drN _⟩
      case measure => simp [intOf]; omega
    · have hki : ¬ (k : Int) < (l.length : Int) := by omega
      go_wp2_with fail
      go_ret
      exact ⟨rfl, HI.out⟩
#print axioms sameTexts_any
end Go.Proofs.Ytoaaikbplnpmmaa
