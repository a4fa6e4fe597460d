/- Tq -/
import Derived.Test.YtbfikeegacapjaaWBs
import Derived.Test.YtbfikeegacapjaaWPaC
import Derived.BigQuiet
import Derived.Deep.QuietTactic
import Derived.Deep.RegionHeld3
import Derived.Deep.RegionWith

namespace Go.Proofs.Ytbfikeegacapjaa
open Go.RowKit
attribute [local go_sem] run_store_complex
structure ValsD (w : World) (D : Nat → Prop) (l : List Value) (v : Value) : Prop where
  out : ∃ (a : Option Addr) (cap : Nat), v = .slice a l.length cap ∧ Slc a l.length cap ∧ RowAt w D a l.length 1 (fun i => [l.getD i undef])
theorem ValsD.open {w : World} {D : Nat → Prop} {l : List Value} {v : Value} (h : ValsD w D l v) : ∃ a cap, v = .slice a l.length cap ∧ l.length ≤ 9223372036854775807 ∧ l.length ≤ cap ∧ cap ≤ 9223372036854775807 := by
  obtain ⟨a, cap, rfl, hl, _⟩ := h.out; have h1 := hl.big; have h2 := hl.le; unfold maxLen at h1; exact ⟨_, _, rfl, by omega, by omega, by omega⟩
theorem ValsD.itemD {w : World} {D : Nat → Prop} {l : List Value} {a : Option Addr} {n cap : Nat} (h : ValsD w D l (.slice a n cap)) (k : Nat) (hk : k < l.length) :
    ∃ b o, a = some ⟨b, o, none⟩ ∧ D b ∧ w.cell? ⟨b, o + k, none⟩ = some l[k] := by
  obtain ⟨a, cap, e, h1, h3⟩ := h.out
  cases e
  obtain ⟨b, o, ha, k1, _, c0⟩ := h3.one k hk
  have e : l.getD k undef = l[k] := by simp [List.getD, hk]
  rw [e] at c0
  exact ⟨b, o, ha, k1, c0⟩
theorem vals_of_own {w : World} {base e : Nat} {v : Value} {xs : List Value} {n : Nat} (h : w.ownsRow base e 1 v n xs) {D : Nat → Prop} (hD : ∀ k, v.ownBlock = some k → D k) : ValsD w D xs v := by
  have hn : xs.length = n := by rw [h.1]; omega
  subst hn
  obtain ⟨a, cap, rfl, hs⟩ := own_slice h
  refine ⟨a, cap, rfl, hs, fun i hi => ?_⟩
  rcases h.2 with ⟨e, h0⟩ | ⟨g, cap', cur, e, hb, hh, h1, h2, h3, h4⟩
  · omega
  · cases e
    refine ⟨g, 0, rfl, hD g rfl, fun j => frozen_of_row w g j cur _ hh, fun j u hu => ?_⟩
    have hj : j = 0 := by have := (List.getElem?_eq_some_iff.1 hu).1; simpa using this
    subst hj
    have e : xs.getD i undef = xs[i] := by simp [List.getD, hi]
    simp only [e, List.getElem?_cons_zero, Option.some.injEq] at hu
    subst hu
    rw [cell_of_row w g _ cur _ (0, 0) hh, Nat.mul_one, Nat.zero_add, Nat.add_zero]
    have h5 : (cur.toList.take (xs.length * 1))[i]? = xs[i]? := by rw [h4]
    rw [List.getElem?_take, if_pos (by omega), List.getElem?_eq_getElem hi] at h5
    simpa using h5
theorem elemStr : ElemOf Try.prog 126 9 (.string ⟨#[]⟩) 1 16 := ⟨Try.underlying126, by kernel_rfl, rfl, by decide⟩
def strs (l : List ByteArray) : List Value := l.map Value.string
theorem strs_append (l m : List ByteArray) : strs (l ++ m) = strs l ++ strs m := by simp [strs]
theorem strs_len (l : List ByteArray) : (strs l).length = l.length := by simp [strs]
def Ex.own (e : Ex) : List ByteArray := if e.kind = 2 then [e.name] else []
theorem Ex.names_own (e : Ex) : e.names = e.own ++ Ex.namesL e.of := Ex.names_eq e
theorem Ex.own_len (e : Ex) : e.own.length ≤ 1 := by unfold Ex.own; split <;> simp
theorem Ex.namesL_take (l : List Ex) (k : Nat) (h : k < l.length) : Ex.namesL (l.take (k + 1)) = Ex.namesL (l.take k) ++ l[k].names := by
  rw [List.take_succ_eq_append_getElem h, Ex.namesL_append]; simp [Ex.namesL]
theorem Ex.sizes_take (l : List Ex) (k : Nat) (h : k < l.length) : Ex.sizes (l.take (k + 1)) = Ex.sizes (l.take k) + l[k].size := by
  rw [List.take_succ_eq_append_getElem h, Ex.sizes_append]; simp [Ex.sizes]
theorem Ex.sizes_take_le (l : List Ex) (k : Nat) : Ex.sizes (l.take k) ≤ Ex.sizes l := by
  have := Ex.sizes_append (l.take k) (l.drop k)
  rw [List.take_append_drop] at this; omega
structure OwnT (w : World) (base : Nat) (xs : List ByteArray) (v : Value) : Prop where
  row : w.ownsRow base 9 1 v xs.length (strs xs)
  le : base ≤ w.heap.size
theorem OwnT.base_le {w : World} {base : Nat} {xs : List ByteArray} {v : Value} (h : OwnT w base xs v) : ∀ k, v.ownBlock = some k → base ≤ k := fun k e => (h.row.lt k e).1
theorem OwnT.kept {w w' : World} {base : Nat} {xs : List ByteArray} {v : Value} (h : OwnT w base xs v) (k : Kept w w') : OwnT w' base xs v :=
  ⟨h.row.kept (Grow.kept (.slice none 0 0) k).grown (by cases hv : v.ownBlock <;> simp [Value.ownBlock]), Nat.le_trans h.le k.size⟩
theorem OwnT.nil (w : World) : OwnT w w.heap.size [] (.slice none 0 0) := ⟨⟨rfl, .inl ⟨rfl, rfl⟩⟩, Nat.le_refl _⟩
theorem OwnT.grew {w w' : World} {base : Nat} {xs ys : List ByteArray} {v v' : Value} (h : OwnT w base xs v) (hG : Grew w base 9 1 v xs.length (strs xs) ys.length (strs ys) v' w') : OwnT w' base (xs ++ ys) v' :=
  ⟨by rw [strs_append, List.length_append]; exact hG.own, Nat.le_trans h.le hG.grown.size⟩
theorem OwnT.vals {w : World} {base : Nat} {xs : List ByteArray} {v : Value} (h : OwnT w base xs v) : ValsD w (Rng base w.heap.size) (strs xs) v :=
  vals_of_own h.row fun k hk => h.row.lt k hk
theorem own_lit' {w : World} (base e size : Nat) (cs : Array Value) (hs : cs.size = size) (hb : base ≤ w.heap.size) (H : Nat) (hH : w.heap.size = H) : (w.alloc (.cells cs e)).ownsRow base e size (.slice (some ⟨H, 0, none⟩) 1 1) 1 cs.toList := by
  subst hH; exact own_lit base e size cs hs hb
def PAn (e : Ex) : Prop := ∀ (w : World) (base : Nat) (xs : List ByteArray) (v va : Value), OwnT w base xs v → ExsIn w 0 base e.of va → xs.length + e.size ≤ 1073741824 →
  Calls Try.prog 76 #[v, e.val va] w fun r w' => ∃ v', r = .returned v' ∧ OwnT w' base (xs ++ e.names) v' ∧ Grow w w' v v'
set_option maxRecDepth 100000 in
set_option maxHeartbeats 2000000 in
theorem appendNames_of (e : Ex) (H : ∀ y ∈ e.of, PAn y) : PAn e := by
  intro w base xs v va ho ha hn
  have HA : Hid _ := ha
  have HO : Hid _ := ho
  have HH : Hid (∀ y ∈ e.of, PAn y) := H
  have hse := Ex.size_eq e
  have hol := Ex.own_len e
  obtain ⟨a0, cap0, rfl, -⟩ := own_slice ho.row
  obtain ⟨a, cap, rfl, hl, hl2, hcap⟩ := ha.open
  have HN : Hid (xs.length + 1 + Ex.sizes e.of ≤ 1073741824) := by show _ ≤ _; omega
  have hxl : xs.length ≤ 1073741823 := by omega
  clear ho ha H hn hse
  unfold Ex.val
  cases hk2 : (e.kind == 2) with
  | true =>
    have HOwn : Hid (e.own = [e.name]) := by unfold Ex.own; rw [if_pos (by simpa using hk2)]; rfl
    go_enter Try.func76, Try.ntmps76
    go_wp2_with (at_builtin; refine wpList_append_rows (base := base) (n := xs.length) (xs := strs xs) (by rfl) _ _ _ (by rfl) elemStr (by rfl) ((HO.out.kept (((Kept.refl w).al _).al _)).row) (by rfl) (own_lit' 0 9 1 _ (by rfl) (Nat.zero_le _) (w.heap.size + 1) (by simp)) ?one (by omega) ?len ?base ?_)
    case one => rfl
    case len => unfold maxLen; omega
    case base => have := HO.out.le; simp; omega
    intro ad2 cap2 w2 HG
    have hnw : some w.heap.size ≠ (Value.slice a0 xs.length cap0).ownBlock := fun e => by have := (HO.out.row.lt _ e.symm).2; omega
    have b3 : w2.cell? ⟨w.heap.size, 3, none⟩ = some (.slice a e.of.length cap) := HG.out.grown.cell (((Kept.refl _).al _).cellS (by simp)) hnw
    have HI0 : Hid (OwnT w2 base (xs ++ [e.name]) (.slice ad2 (xs.length + 1) cap2) ∧ (xs ++ [e.name] : List ByteArray) = xs ++ e.own ∧ Grow w w2 (.slice a0 xs.length cap0) (.slice ad2 (xs.length + 1) cap2)) :=
      ⟨(HO.out.kept (((Kept.refl w).al _).al _)).grew (ys := [e.name]) HG.out, by rw [HOwn.out], (Grow.kept _ (((Kept.refl w).al _).al _)).trans HG.out.grow⟩
    obtain ⟨ys, hys⟩ : ∃ ys, xs ++ [e.name] = ys := ⟨_, rfl⟩
    rw [hys] at HI0
    clear hys HG hnw
    go_wp2_with fail
    go_loopw [0, 18] (fun list i wr => ∃ (k : Nat) (a1 : Option Addr) (n1 q1 : Nat) (zs : List ByteArray), list = .slice a1 n1 q1 ∧ i = .int .i64 (k : Int) ∧ k ≤ e.of.length ∧ Hid (OwnT wr base zs (.slice a1 n1 q1) ∧ zs = ys ++ Ex.namesL (e.of.take k) ∧ Grow w wr (.slice a0 xs.length cap0) (.slice a1 n1 q1))) (fun _ i _ => e.of.length - (intOf i).toNat)
    case atStart => exact ⟨0, _, _, _, ys, rfl, rfl, Nat.zero_le _, HI0.out.1, by simp [Ex.namesL], HI0.out.2.2⟩
    case round =>
      obtain ⟨k, ax, nx, qx, zs, rfl, rfl, hk, HI⟩ := hrel
      have hbr := HI.out.1.le
      have HBl : Hid (Below base w wr) := HI.out.2.2.below HO.out.le HO.out.base_le
      by_cases hlt : k < e.of.length
      · have hki : (k : Int) < (e.of.length : Int) := by omega
        obtain ⟨b, o, a1, n1, q1, rfl, _, hb, _, c0, c1, c2, c3, k1⟩ := HA.out.item (Stays.of_below HBl.out (Nat.le_refl _)) k hlt
        have hzb : b < wr.heap.size := by omega
        have hst := Ex.sizes_take e.of k hlt
        have hstl := Ex.sizes_take_le e.of (k + 1)
        have hnl := Ex.namesL_len (e.of.take k)
        have hzl : zs.length + e.of[k].size ≤ 1073741824 := by
          have h1 := HI.out.2.1
          have h2 := HI0.out.2.1
          have := HN.out
          rw [h1, h2, List.length_append, List.length_append]; omega
        have P : Hid (∀ W, Kept wr W → Calls Try.prog 76 #[.slice ax nx qx, .agg #[.int .i64 e.of[k].kind, .int .i64 e.of[k].n, .string e.of[k].name, .slice a1 n1 q1]] W fun r w' => ∃ a8 n8 q8, r = .returned (.slice a8 n8 q8) ∧ Hid (OwnT w' base (zs ++ e.of[k].names) (.slice a8 n8 q8) ∧ Grow W w' (.slice ax nx qx) (.slice a8 n8 q8))) := by
          intro W hW
          refine (HH.out _ (List.getElem_mem hlt) W base zs _ _ (HI.out.1.kept hW) (k1.stays (hW.stays hbr)) hzl).mono ?_
          rintro r w6 ⟨v6, rfl, ho6, hg6⟩
          obtain ⟨a8, q8, rfl, -⟩ := own_slice ho6.row
          exact ⟨a8, _, q8, rfl, ho6, hg6⟩
        have HM : Hid (zs ++ e.of[k].names = ys ++ Ex.namesL (e.of.take (k + 1))) := by show _ = _; rw [HI.out.2.1, Ex.namesL_take e.of k hlt, List.append_assoc]
        clear hst hstl hnl hzl k1
        go_wp2_with fail
        refine (P.out _ ((Kept.refl wr).al _)).mono ?_
        rintro r w6 ⟨a8, n8, q8, rfl, HS⟩
        have HG6 : Hid (Grow w w6 (.slice a0 xs.length cap0) (.slice a8 n8 q8)) := HI.out.2.2.trans ((Grow.kept _ ((Kept.refl wr).al _)).trans HS.out.2)
        go_wp2_with fail
        go_roundw
        case rel => exact ⟨k + 1, _, _, _, _, rfl, by go_num, by omega, HS.out.1, HM.out, HG6.out⟩
        case measure => simp [intOf]; omega
      · have hki : ¬ (k : Int) < (e.of.length : Int) := by omega
        have HM : Hid (zs = xs ++ e.names) := by
          have h1 := HI.out.2.1
          have h2 := HI0.out.2.1
          rw [List.take_of_length_le (by omega)] at h1
          show _ = _
          rw [h1, h2, Ex.names_own, List.append_assoc]
        go_wp2_with fail
        go_ret
        exact ⟨_, rfl, by rw [← HM.out]; exact HI.out.1, HI.out.2.2⟩
  | false =>
    have HOwn : Hid (e.own = []) := by unfold Ex.own; rw [if_neg (by simpa using hk2)]; rfl
    go_enter Try.func76, Try.ntmps76
    go_wp2_with fail
    obtain ⟨ys, hys⟩ : ∃ ys, xs = ys := ⟨_, rfl⟩
    have HI0 : Hid (OwnT (w.alloc (.cells #[.int .i64 e.kind, .int .i64 e.n, .string e.name, .slice a e.of.length cap] 53)) base ys (.slice a0 xs.length cap0) ∧ ys = xs ++ e.own ∧ Grow w (w.alloc (.cells #[.int .i64 e.kind, .int .i64 e.n, .string e.name, .slice a e.of.length cap] 53)) (.slice a0 xs.length cap0) (.slice a0 xs.length cap0)) :=
      ⟨by rw [← hys]; exact HO.out.kept ((Kept.refl w).al _), by rw [HOwn.out, List.append_nil, hys], Grow.kept _ ((Kept.refl w).al _)⟩
    clear hys
    generalize w.alloc (.cells #[.int .i64 e.kind, .int .i64 e.n, .string e.name, .slice a e.of.length cap] 53) = W at *
    go_loopw [0, 18] (fun list i wr => ∃ (k : Nat) (a1 : Option Addr) (n1 q1 : Nat) (zs : List ByteArray), list = .slice a1 n1 q1 ∧ i = .int .i64 (k : Int) ∧ k ≤ e.of.length ∧ Hid (OwnT wr base zs (.slice a1 n1 q1) ∧ zs = ys ++ Ex.namesL (e.of.take k) ∧ Grow w wr (.slice a0 xs.length cap0) (.slice a1 n1 q1))) (fun _ i _ => e.of.length - (intOf i).toNat)
    case atStart => exact ⟨0, _, _, _, ys, rfl, rfl, Nat.zero_le _, HI0.out.1, by simp [Ex.namesL], HI0.out.2.2⟩
    case round =>
      obtain ⟨k, ax, nx, qx, zs, rfl, rfl, hk, HI⟩ := hrel
      have hbr := HI.out.1.le
      have HBl : Hid (Below base w wr) := HI.out.2.2.below HO.out.le HO.out.base_le
      by_cases hlt : k < e.of.length
      · have hki : (k : Int) < (e.of.length : Int) := by omega
        obtain ⟨b, o, a1, n1, q1, rfl, _, hb, _, c0, c1, c2, c3, k1⟩ := HA.out.item (Stays.of_below HBl.out (Nat.le_refl _)) k hlt
        have hzb : b < wr.heap.size := by omega
        have hst := Ex.sizes_take e.of k hlt
        have hstl := Ex.sizes_take_le e.of (k + 1)
        have hnl := Ex.namesL_len (e.of.take k)
        have hzl : zs.length + e.of[k].size ≤ 1073741824 := by
          have h1 := HI.out.2.1
          have h2 := HI0.out.2.1
          have := HN.out
          rw [h1, h2, List.length_append, List.length_append]; omega
        have P : Hid (∀ W, Kept wr W → Calls Try.prog 76 #[.slice ax nx qx, .agg #[.int .i64 e.of[k].kind, .int .i64 e.of[k].n, .string e.of[k].name, .slice a1 n1 q1]] W fun r w' => ∃ a8 n8 q8, r = .returned (.slice a8 n8 q8) ∧ Hid (OwnT w' base (zs ++ e.of[k].names) (.slice a8 n8 q8) ∧ Grow W w' (.slice ax nx qx) (.slice a8 n8 q8))) := by
          intro W hW
          refine (HH.out _ (List.getElem_mem hlt) W base zs _ _ (HI.out.1.kept hW) (k1.stays (hW.stays hbr)) hzl).mono ?_
          rintro r w6 ⟨v6, rfl, ho6, hg6⟩
          obtain ⟨a8, q8, rfl, -⟩ := own_slice ho6.row
          exact ⟨a8, _, q8, rfl, ho6, hg6⟩
        have HM : Hid (zs ++ e.of[k].names = ys ++ Ex.namesL (e.of.take (k + 1))) := by show _ = _; rw [HI.out.2.1, Ex.namesL_take e.of k hlt, List.append_assoc]
        clear hst hstl hnl hzl k1
        go_wp2_with fail
        refine (P.out _ ((Kept.refl wr).al _)).mono ?_
        rintro r w6 ⟨a8, n8, q8, rfl, HS⟩
        have HG6 : Hid (Grow w w6 (.slice a0 xs.length cap0) (.slice a8 n8 q8)) := HI.out.2.2.trans ((Grow.kept _ ((Kept.refl wr).al _)).trans HS.out.2)
        go_wp2_with fail
        go_roundw
        case rel => exact ⟨k + 1, _, _, _, _, rfl, by go_num, by omega, HS.out.1, HM.out, HG6.out⟩
        case measure => simp [intOf]; omega
      · have hki : ¬ (k : Int) < (e.of.length : Int) := by omega
        have HM : Hid (zs = xs ++ e.names) := by
          have h1 := HI.out.2.1
          have h2 := HI0.out.2.1
          rw [List.take_of_length_le (by omega)] at h1
          show _ = _
          rw [h1, h2, Ex.names_own, List.append_assoc]
        go_wp2_with fail
        go_ret
        exact ⟨_, rfl, by rw [← HM.out]; exact HI.out.1, HI.out.2.2⟩
theorem appendNames_any (e : Ex) : PAn e := Ex.ind appendNames_of e
set_option maxRecDepth 100000 in
set_option maxHeartbeats 2000000 in
theorem names_any (e : Ex) (w : World) (va : Value) (ha : ExsIn w 0 w.heap.size e.of va) (hn : e.size ≤ 1073741824) :
    Calls Try.prog 74 #[e.val va] w fun r w' => ∃ v', r = .returned v' ∧ OwnT w' w.heap.size e.names v' ∧ Kept w w' := by
  obtain ⟨a, cap, rfl, -⟩ := ha.open
  have P : Hid (∀ W, Kept w W → Calls Try.prog 76 #[.slice none 0 0, .agg #[.int .i64 e.kind, .int .i64 e.n, .string e.name, .slice a e.of.length cap]] W fun r w' => ∃ a8 n8 q8, r = .returned (.slice a8 n8 q8) ∧ Hid (OwnT w' W.heap.size e.names (.slice a8 n8 q8) ∧ Kept W w')) := by
    intro W hW
    refine (appendNames_any e W W.heap.size [] _ _ (OwnT.nil W) ((ha.stays (hW.stays (Nat.le_refl _))).mono (Rng.up (Nat.le_refl _) hW.size)) (by simpa using hn)).mono ?_
    rintro r w6 ⟨v6, rfl, ho6, hg6⟩
    obtain ⟨a8, q8, rfl, -⟩ := own_slice ho6.row
    exact ⟨a8, _, q8, rfl, by simpa using ho6, hg6.below (Nat.le_refl _) (fun k h => by cases h)⟩
  clear ha
  unfold Ex.val
  go_enter Try.func74, Try.ntmps74
  go_wp2_with fail
  refine (P.out _ ((Kept.refl w).al _)).mono ?_
  rintro r w6 ⟨a8, n8, q8, rfl, HS⟩
  go_wp2_with fail
  go_ret
  exact ⟨_, rfl, ⟨⟨HS.out.1.row.1, HS.out.1.row.2.imp id fun ⟨g, c, cu, h1, h2, h3⟩ => ⟨g, c, cu, h1, by simp at h2; omega, h3⟩⟩, Nat.le_trans ((Kept.refl w).al _ : Kept w _).size HS.out.1.le⟩, ((Kept.refl w).al _).then HS.out.2⟩
theorem OwnT.low {w : World} {base b : Nat} {xs : List ByteArray} {v : Value} (h : OwnT w base xs v) (hb : b ≤ base) : OwnT w b xs v :=
  ⟨⟨h.row.1, h.row.2.imp id fun ⟨g, c, cu, h1, h2, h3⟩ => ⟨g, c, cu, h1, Nat.le_trans hb h2, h3⟩⟩, Nat.le_trans hb h.le⟩
def St.touches (s : St) : List ByteArray := if s.kind = 1 then s.e.names ++ [s.name] else if s.kind = 4 ∨ s.kind = 6 ∨ s.kind = 7 then s.e.names else if s.kind = 5 then [s.other] else []
set_option maxRecDepth 100000 in
set_option maxHeartbeats 2000000 in
theorem touches_any (s : St) (w : World) (ev bv lv : Value) (he : ExsIn w 0 w.heap.size s.e.of ev) (hb : StsIn w 0 w.heap.size s.body bv) (hl : StsIn w 0 w.heap.size s.els lv) (hn : s.e.size ≤ 1073741823) :
    Calls Try.prog 68 #[s.val ev bv lv] w fun r w' => ∃ v', r = .returned v' ∧ ValsD w' (Rng w.heap.size w'.heap.size) (strs s.touches) v' ∧ Kept w w' := by
  obtain ⟨a1, n1, q1, rfl⟩ := he.form
  obtain ⟨a2, n2, q2, rfl⟩ := hb.form
  obtain ⟨a3, n3, q3, rfl⟩ := hl.form
  have PN : Hid (∀ W, Kept w W → Calls Try.prog 74 #[.agg #[.int .i64 s.e.kind, .int .i64 s.e.n, .string s.e.name, .slice a1 n1 q1]] W fun r w' => ∃ a8 n8 q8, r = .returned (.slice a8 n8 q8) ∧ Hid (OwnT w' W.heap.size s.e.names (.slice a8 n8 q8) ∧ Kept W w')) := by
    intro W hW
    refine (names_any s.e W _ (he.up (Nat.le_refl _) hW) (by omega)).mono ?_
    rintro r w6 ⟨v6, rfl, ho6, hg6⟩
    obtain ⟨a8, q8, rfl, -⟩ := own_slice ho6.row
    exact ⟨a8, _, q8, rfl, ho6, hg6⟩
  have hnl := Ex.names_len s.e
  have hnl2 : s.e.names.length ≤ 1073741823 := by omega
  clear he hb hl hnl
  unfold St.val
  cases h1 : (s.kind == 1) with
  | true =>
    have HT : Hid (s.touches = s.e.names ++ [s.name]) := by unfold St.touches; rw [if_pos (by simpa using h1)]; rfl
    go_enter Try.func68, Try.ntmps68
    go_wp2_with fail
    obtain ⟨W0, hW0⟩ : ∃ W0, w.alloc (.cells #[.int .i64 s.kind, .string s.name, .string s.other, .int .i64 s.n, .int .i64 s.e.kind, .int .i64 s.e.n, .string s.e.name, .slice a1 n1 q1, .slice a2 n2 q2, .slice a3 n3 q3, .complex .f64 s.re s.im] 55) = W0 := ⟨_, rfl⟩
    have b1 : W0.cell? ⟨w.heap.size, 1, none⟩ = some (.string s.name) := by rw [← hW0]; simp
    have b4 : W0.cell? ⟨w.heap.size, 4, none⟩ = some (.int .i64 s.e.kind) := by rw [← hW0]; simp
    have b5 : W0.cell? ⟨w.heap.size, 5, none⟩ = some (.int .i64 s.e.n) := by rw [← hW0]; simp
    have b6 : W0.cell? ⟨w.heap.size, 6, none⟩ = some (.string s.e.name) := by rw [← hW0]; simp
    have b7 : W0.cell? ⟨w.heap.size, 7, none⟩ = some (.slice a1 n1 q1) := by rw [← hW0]; simp
    have KW : Hid (Kept w W0) := by rw [← hW0]; exact (Kept.refl w).al _
    rw [hW0]
    clear hW0
    obtain ⟨ns, hns⟩ : ∃ ns, s.e.names = ns := ⟨_, rfl⟩
    rw [hns] at PN HT hnl2
    clear hns
    have SS : Hid (∀ w', Kept W0 w' → Hid (Kept W0 w') ∧ w'.cell? ⟨w.heap.size, 1, none⟩ = some (.string s.name) ∧ w'.cell? ⟨w.heap.size, 4, none⟩ = some (.int .i64 s.e.kind) ∧ w'.cell? ⟨w.heap.size, 5, none⟩ = some (.int .i64 s.e.n) ∧ w'.cell? ⟨w.heap.size, 6, none⟩ = some (.string s.e.name) ∧ w'.cell? ⟨w.heap.size, 7, none⟩ = some (.slice a1 n1 q1)) := fun w' KK => ⟨KK, KK.cellS b1, KK.cellS b4, KK.cellS b5, KK.cellS b6, KK.cellS b7⟩
    have PN0 : Hid (∀ W, Kept W0 W → Calls Try.prog 74 #[.agg #[.int .i64 s.e.kind, .int .i64 s.e.n, .string s.e.name, .slice a1 n1 q1]] W fun r w' => ∃ a8 n8 q8, r = .returned (.slice a8 n8 q8) ∧ Hid (OwnT w' W0.heap.size ns (.slice a8 n8 q8) ∧ Kept W w' ∧ Kept W0 w')) := by
      intro W hW
      refine (PN.out W (KW.out.then hW)).mono ?_
      rintro r w6 ⟨a8, n8, q8, rfl, h6⟩
      exact ⟨a8, n8, q8, rfl, h6.out.1.low hW.size, h6.out.2, hW.then h6.out.2⟩
    have SRC : Hid (∀ w', Kept (W0.drew.alloc (.cells #[.string s.name] 9)) w' → w'.ownsRow 0 9 1 (.slice (some ⟨W0.heap.size, 0, none⟩) 1 1) 1 [.string s.name]) := fun w' k =>
      (own_lit (w := W0.drew) 0 9 1 #[.string s.name] rfl (Nat.zero_le _)).kept (Grow.kept (.slice none 0 0) k).grown (by simp [Value.ownBlock])
    go_region_held3 (fun w' => Hid (Kept W0 w') ∧ w'.cell? ⟨w.heap.size, 1, none⟩ = some (.string s.name) ∧ w'.cell? ⟨w.heap.size, 4, none⟩ = some (.int .i64 s.e.kind) ∧ w'.cell? ⟨w.heap.size, 5, none⟩ = some (.int .i64 s.e.n) ∧ w'.cell? ⟨w.heap.size, 6, none⟩ = some (.string s.e.name) ∧ w'.cell? ⟨w.heap.size, 7, none⟩ = some (.slice a1 n1 q1))
      (first
        | exact SS.out _ kz.out.1
        | exact SS.out _ (HS.out.2.2.al _)
        | exact SS.out _ HS.out.2.2
        | exact SS.out _ (((Kept.refl W0).dr).al _)
        | exact SS.out _ ((Kept.refl W0).dr))
      (first
        | (go_at_call 74; refine (PN0.out _ ((Kept.refl W0).dr)).mono ?_; rintro e w3 ⟨a8, n8, q8, rfl, HS⟩)
        | (go_at_call 74; refine (PN0.out _ ((Kept.refl W0).dr.al _)).mono ?_; rintro e w3 ⟨a8, n8, q8, rfl, HS⟩)
        | (refine step_append_rows (base := W0.heap.size) (n := ns.length) (xs := strs ns) (by rfl) _ _ _ (by rfl) elemStr (by rfl) (HS.out.1.kept ((Kept.refl w3).al _)).row (by rfl) (own_lit 0 9 1 _ (by rfl) (Nat.zero_le _)) (fun u hu => by simp at hu; subst hu; rfl) (by omega) (by unfold maxLen; omega) (HS.out.1.kept ((Kept.refl w3).al _)).le ?_; intro ad4 cap4 w4 HG; have kz : Hid (Kept W0 w4 ∧ OwnT w4 W0.heap.size (ns ++ [s.name]) (.slice ad4 (ns.length + 1) cap4)) := ⟨HG.out.below (HS.out.1.kept ((Kept.refl w3).al _)).row (Nat.le_refl _) (HS.out.1.kept ((Kept.refl w3).al _)).le (HS.out.2.2.al _), (HS.out.1.kept ((Kept.refl w3).al _)).grew (ys := [s.name]) HG.out⟩)
        | (refine step_append_rows (base := W0.heap.size) (n := ns.length) (xs := strs ns) (by rfl) _ _ _ (by rfl) elemStr (by rfl) HS.out.1.row (by rfl) (SRC.out _ HS.out.2.1) (fun u hu => by simp at hu; subst hu; rfl) (by omega) (by unfold maxLen; omega) HS.out.1.le ?_; intro ad4 cap4 w4 HG; have kz : Hid (Kept W0 w4 ∧ OwnT w4 W0.heap.size (ns ++ [s.name]) (.slice ad4 (ns.length + 1) cap4)) := ⟨HG.out.below HS.out.1.row (Nat.le_refl _) HS.out.1.le HS.out.2.2, HS.out.1.grew (ys := [s.name]) HG.out⟩))
    all_goals
      rename_i hH
      clear hH
      have HF : Hid (ValsD w4 (Rng w.heap.size w4.heap.size) (strs s.touches) (.slice ad4 (ns.length + 1) cap4) ∧ Kept w w4) := by
        rw [HT.out]
        exact ⟨(kz.out.2.low KW.out.size).vals, KW.out.then kz.out.1⟩
      go_wp2_with fail
      go_ret
      exact ⟨_, rfl, HF.out.1, HF.out.2⟩
  | false =>
  cases h4 : (s.kind == 4) with
  | true =>
    have HT : Hid (s.touches = s.e.names) := by unfold St.touches; rw [if_neg (by simpa using h1), if_pos (by have := h4; simp at this; omega)]; rfl
    go_enter Try.func68, Try.ntmps68
    go_wp2_with fail
    refine (PN.out _ ((Kept.refl w).al _)).mono ?_
    rintro r w6 ⟨a8, n8, q8, rfl, HS⟩
    have HF : Hid (ValsD w6 (Rng w.heap.size w6.heap.size) (strs s.touches) (.slice a8 n8 q8) ∧ Kept w w6) := by
      rw [HT.out]
      exact ⟨(HS.out.1.low ((Kept.refl w).al _ : Kept w _).size).vals, ((Kept.refl w).al _).then HS.out.2⟩
    go_wp2_with fail
    go_ret
    exact ⟨_, rfl, HF.out.1, HF.out.2⟩
  | false =>
  cases h6 : (s.kind == 6) with
  | true =>
    have HT : Hid (s.touches = s.e.names) := by unfold St.touches; rw [if_neg (by simpa using h1), if_pos (by have := h6; simp at this; omega)]; rfl
    go_enter Try.func68, Try.ntmps68
    go_wp2_with fail
    refine (PN.out _ ((Kept.refl w).al _)).mono ?_
    rintro r w6 ⟨a8, n8, q8, rfl, HS⟩
    have HF : Hid (ValsD w6 (Rng w.heap.size w6.heap.size) (strs s.touches) (.slice a8 n8 q8) ∧ Kept w w6) := by
      rw [HT.out]
      exact ⟨(HS.out.1.low ((Kept.refl w).al _ : Kept w _).size).vals, ((Kept.refl w).al _).then HS.out.2⟩
    go_wp2_with fail
    go_ret
    exact ⟨_, rfl, HF.out.1, HF.out.2⟩
  | false =>
  cases h7 : (s.kind == 7) with
  | true =>
    have HT : Hid (s.touches = s.e.names) := by unfold St.touches; rw [if_neg (by simpa using h1), if_pos (by have := h7; simp at this; omega)]; rfl
    go_enter Try.func68, Try.ntmps68
    go_wp2_with fail
    refine (PN.out _ ((Kept.refl w).al _)).mono ?_
    rintro r w6 ⟨a8, n8, q8, rfl, HS⟩
    have HF : Hid (ValsD w6 (Rng w.heap.size w6.heap.size) (strs s.touches) (.slice a8 n8 q8) ∧ Kept w w6) := by
      rw [HT.out]
      exact ⟨(HS.out.1.low ((Kept.refl w).al _ : Kept w _).size).vals, ((Kept.refl w).al _).then HS.out.2⟩
    go_wp2_with fail
    go_ret
    exact ⟨_, rfl, HF.out.1, HF.out.2⟩
  | false =>
  have hno : ¬ (s.kind = 4 ∨ s.kind = 6 ∨ s.kind = 7) := by simp at h4 h6 h7; omega
  cases h5 : (s.kind == 5) with
  | true =>
    have HT : Hid (s.touches = [s.other]) := by unfold St.touches; rw [if_neg (by simpa using h1), if_neg hno, if_pos (by simpa using h5)]; rfl
    clear hno
    go_enter Try.func68, Try.ntmps68
    go_wp2_with fail
    go_ret
    refine ⟨_, rfl, ?_, ((Kept.refl w).al _).al _⟩
    rw [HT.out]
    exact vals_of_own (own_lit' (w := w.alloc (.cells #[.int .i64 s.kind, .string s.name, .string s.other, .int .i64 s.n, .int .i64 s.e.kind, .int .i64 s.e.n, .string s.e.name, .slice a1 n1 q1, .slice a2 n2 q2, .slice a3 n3 q3, .complex .f64 s.re s.im] 55)) 0 9 1 #[.string s.other] rfl (Nat.zero_le _) (w.heap.size + 1) (by simp)) (fun k hk => by simp [Value.ownBlock] at hk; subst hk; exact ⟨by omega, by simp⟩)
  | false =>
    have HT : Hid (s.touches = []) := by unfold St.touches; rw [if_neg (by simpa using h1), if_neg hno, if_neg (by simpa using h5)]; rfl
    clear hno
    go_enter Try.func68, Try.ntmps68
    go_wp2_with fail
    go_ret
    refine ⟨_, rfl, ?_, (Kept.refl w).al _⟩
    rw [HT.out]
    exact ⟨none, 0, rfl, ⟨Nat.le_refl _, by unfold maxLen; omega, fun _ => rfl⟩, fun i hi => by simp [strs] at hi⟩
end Go.Proofs.Ytbfikeegacapjaa
