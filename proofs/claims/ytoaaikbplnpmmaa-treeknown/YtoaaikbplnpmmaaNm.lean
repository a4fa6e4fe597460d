/- What Names answers, of the program and of the reference. -/
import Derived.Test.YtoaaikbplnpmmaaCn
namespace Go.Proofs.Ytoaaikbplnpmmaa
open Go.RowKit
attribute [local go_sem] run_store_complex

theorem elemStr : ElemOf Try.prog 39 9 (.string ⟨#[]⟩) 1 16 := ⟨Try.underlying39, by kernel_rfl, rfl, by decide⟩

def strs (l : List ByteArray) : List Value := l.map Value.string
theorem strs_append (l m : List ByteArray) : strs (l ++ m) = strs l ++ strs m := by simp [strs]
theorem strs_len (l : List ByteArray) : (strs l).length = l.length := by simp [strs]
theorem strs_one (l : List ByteArray) : ∀ u ∈ strs l, u.oneCell' = true := by
  intro u hu
  simp only [strs, List.mem_map] at hu
  obtain ⟨s, _, rfl⟩ := hu
  rfl
/-- Its own name, if it is one. -/
def Ex.own (e : Ex) : List ByteArray := if e.kind = 2 then [e.name] else []
theorem Ex.names_own (e : Ex) : e.names = e.own ++ Ex.namesL e.of := Ex.names_eq e
theorem Ex.own_len (e : Ex) : e.own.length ≤ 1 := by unfold Ex.own; split <;> simp
theorem Ex.namesL_take (l : List Ex) (k : Nat) (h : k < l.length) : Ex.namesL (l.take (k + 1)) = Ex.namesL (l.take k) ++ l[k].names := by
  rw [List.take_succ_eq_append_getElem h, Ex.namesL_append]; simp [Ex.namesL]
theorem Ex.sizes_take (l : List Ex) (k : Nat) (h : k < l.length) : Ex.sizes (l.take (k + 1)) = Ex.sizes (l.take k) + l[k].size := by
  rw [List.take_succ_eq_append_getElem h, Ex.sizes_append]; simp [Ex.sizes]
theorem Ex.sizes_take_le (l : List Ex) (k : Nat) : Ex.sizes (l.take k) ≤ Ex.sizes l := by
  have := Ex.sizes_append (l.take k) (l.drop k)
  rw [List.take_append_drop] at this; omega

/-- The call owns the row of texts v. -/
structure OwnT (w : World) (base : Nat) (xs : List ByteArray) (v : Value) : Prop where
  row : w.ownsRow base 9 1 v xs.length (strs xs)
  le : base ≤ w.heap.size
theorem OwnT.base_le {w : World} {base : Nat} {xs : List ByteArray} {v : Value} (h : OwnT w base xs v) : ∀ k, v.ownBlock = some k → base ≤ k := fun k e => (h.row.lt k e).1
theorem OwnT.kept {w w' : World} {base : Nat} {xs : List ByteArray} {v : Value} (h : OwnT w base xs v) (k : Kept w w') : OwnT w' base xs v :=
  ⟨h.row.kept (Grow.kept (.slice none 0 0) k).grown (by cases hv : v.ownBlock <;> simp [Value.ownBlock]), Nat.le_trans h.le k.size⟩
theorem OwnT.nil (w : World) : OwnT w w.heap.size [] (.slice none 0 0) := ⟨⟨rfl, .inl ⟨rfl, rfl⟩⟩, Nat.le_refl _⟩
theorem OwnT.grew {w w' : World} {base : Nat} {xs ys : List ByteArray} {v v' : Value} (h : OwnT w base xs v) (hG : Grew w base 9 1 v xs.length (strs xs) ys.length (strs ys) v' w') : OwnT w' base (xs ++ ys) v' :=
  ⟨by rw [strs_append, List.length_append]; exact hG.own, Nat.le_trans h.le hG.grown.size⟩
theorem OwnT.vals {w : World} {base : Nat} {xs : List ByteArray} {v : Value} (h : OwnT w base xs v) : ValsD w (Rng base w.heap.size) (strs xs) v :=
  vals_of_own h.row fun k hk => h.row.lt k hk

theorem own_lit' {w : World} (base e size : Nat) (cs : Array Value) (hs : cs.size = size) (hb : base ≤ w.heap.size) (H : Nat) (hH : w.heap.size = H) : (w.alloc (.cells cs e)).ownsRow base e size (.slice (some ⟨H, 0, none⟩) 1 1) 1 cs.toList := by
  subst hH; exact own_lit base e size cs hs hb

/-- What appendNames answers at e. -/
def PAn (e : Ex) : Prop := ∀ (w : World) (base : Nat) (xs : List ByteArray) (v va : Value), OwnT w base xs v → ExsIn w 0 base e.of va → xs.length + e.size ≤ 1073741824 →
  Calls Try.prog 40 #[v, e.val va] w fun r w' => ∃ v', r = .returned v' ∧ OwnT w' base (xs ++ e.names) v' ∧ Grow w w' v v'

set_option maxRecDepth 100000 in
set_option maxHeartbeats 2000000 in
/-- From where the loop begins. -/
theorem appendNames_of (e : Ex) (H : ∀ y ∈ e.of, PAn y) : PAn e := by
  intro w base xs v va ho ha hn
  have HA : Hid _ := ha
  have HO : Hid _ := ho
  have HH : Hid (∀ y ∈ e.of, PAn y) := H
  have hse := Ex.size_eq e
  have hol := Ex.own_len e
  obtain ⟨a0, cap0, rfl, -⟩ := own_slice ho.row
  obtain ⟨a, cap, rfl, hl, hl2, hcap⟩ := ha.open
  have HN : Hid (xs.length + 1 + Ex.sizes e.of ≤ 1073741824) := by show _ ≤ _; omega
  have hxl : xs.length ≤ 1073741823 := by omega
  clear ho ha H hn hse
  unfold Ex.val
  cases hk2 : (e.kind == 2) with
  | true =>
    have HOwn : Hid (e.own = [e.name]) := by unfold Ex.own; rw [if_pos (by simpa using hk2)]; rfl
    go_enter Try.func40, Try.ntmps40
    go_wp2_with (at_builtin; refine wpList_append_rows (base := base) (n := xs.length) (xs := strs xs) (by rfl) _ _ _ (by rfl) elemStr (by rfl) ((HO.out.kept (((Kept.refl w).al _).al _)).row) (by rfl) (own_lit' 0 9 1 _ (by rfl) (Nat.zero_le _) (w.heap.size + 1) (by simp)) ?one (by omega) ?len ?base ?_)
    case one => rfl
    case len => unfold maxLen; omega
    case base => have := HO.out.le; simp; omega
    intro ad2 cap2 w2 HG
    have hnw : some w.heap.size ≠ (Value.slice a0 xs.length cap0).ownBlock := fun e => by have := (HO.out.row.lt _ e.symm).2; omega
    have b3 : w2.cell? ⟨w.heap.size, 3, none⟩ = some (.slice a e.of.length cap) := HG.out.grown.cell (((Kept.refl _).al _).cellS (by simp)) hnw
    have HI0 : Hid (OwnT w2 base (xs ++ [e.name]) (.slice ad2 (xs.length + 1) cap2) ∧ (xs ++ [e.name] : List ByteArray) = xs ++ e.own ∧ Grow w w2 (.slice a0 xs.length cap0) (.slice ad2 (xs.length + 1) cap2)) :=
      ⟨(HO.out.kept (((Kept.refl w).al _).al _)).grew (ys := [e.name]) HG.out, by rw [HOwn.out], (Grow.kept _ (((Kept.refl w).al _).al _)).trans HG.out.grow⟩
    obtain ⟨ys, hys⟩ : ∃ ys, xs ++ [e.name] = ys := ⟨_, rfl⟩
    rw [hys] at HI0
    clear hys HG hnw
    go_wp2_with fail
    go_loopw [0, 18] (fun list i wr => ∃ (k : Nat) (a1 : Option Addr) (n1 q1 : Nat) (zs : List ByteArray), list = .slice a1 n1 q1 ∧ i = .int .i64 (k : Int) ∧ k ≤ e.of.length ∧ Hid (OwnT wr base zs (.slice a1 n1 q1) ∧ zs = ys ++ Ex.namesL (e.of.take k) ∧ Grow w wr (.slice a0 xs.length cap0) (.slice a1 n1 q1))) (fun _ i _ => e.of.length - (intOf i).toNat)
    case atStart => exact ⟨0, _, _, _, ys, rfl, rfl, Nat.zero_le _, HI0.out.1, by simp [Ex.namesL], HI0.out.2.2⟩
    case round =>
      obtain ⟨k, ax, nx, qx, zs, rfl, rfl, hk, HI⟩ := hrel
      have hbr := HI.out.1.le
      have HBl : Hid (Below base w wr) := HI.out.2.2.below HO.out.le HO.out.base_le
      by_cases hlt : k < e.of.length
      · have hki : (k : Int) < (e.of.length : Int) := by omega
        obtain ⟨b, o, a1, n1, q1, rfl, _, hb, _, c0, c1, c2, c3, k1⟩ := HA.out.item (Stays.of_below HBl.out (Nat.le_refl _)) k hlt
        have hzb : b < wr.heap.size := by omega
        have hst := Ex.sizes_take e.of k hlt
        have hstl := Ex.sizes_take_le e.of (k + 1)
        have hnl := Ex.namesL_len (e.of.take k)
        have hzl : zs.length + e.of[k].size ≤ 1073741824 := by
          have h1 := HI.out.2.1
          have h2 := HI0.out.2.1
          have := HN.out
          rw [h1, h2, List.length_append, List.length_append]; omega
        have P : Hid (∀ W, Kept wr W → Calls Try.prog 40 #[.slice ax nx qx, .agg #[.int .i64 e.of[k].kind, .int .i64 e.of[k].n, .string e.of[k].name, .slice a1 n1 q1]] W fun r w' => ∃ a8 n8 q8, r = .returned (.slice a8 n8 q8) ∧ Hid (OwnT w' base (zs ++ e.of[k].names) (.slice a8 n8 q8) ∧ Grow W w' (.slice ax nx qx) (.slice a8 n8 q8))) := by
          intro W hW
          refine (HH.out _ (List.getElem_mem hlt) W base zs _ _ (HI.out.1.kept hW) (k1.stays (hW.stays hbr)) hzl).mono ?_
          rintro r w6 ⟨v6, rfl, ho6, hg6⟩
          obtain ⟨a8, q8, rfl, -⟩ := own_slice ho6.row
          exact ⟨a8, _, q8, rfl, ho6, hg6⟩
        have HM : Hid (zs ++ e.of[k].names = ys ++ Ex.namesL (e.of.take (k + 1))) := by show _ = _; rw [HI.out.2.1, Ex.namesL_take e.of k hlt, List.append_assoc]
        clear hst hstl hnl hzl k1
        go_wp2_with fail
        refine (P.out _ ((Kept.refl wr).al _)).mono ?_
        rintro r w6 ⟨a8, n8, q8, rfl, HS⟩
        have HG6 : Hid (Grow w w6 (.slice a0 xs.length cap0) (.slice a8 n8 q8)) := HI.out.2.2.trans ((Grow.kept _ ((Kept.refl wr).al _)).trans HS.out.2)
        go_wp2_with fail
        go_roundw
        case rel => exact ⟨k + 1, _, _, _, _, rfl, by go_num, by omega, HS.out.1, HM.out, HG6.out⟩
        case measure => simp [intOf]; omega
      · have hki : ¬ (k : Int) < (e.of.length : Int) := by omega
        have HM : Hid (zs = xs ++ e.names) := by
          have h1 := HI.out.2.1
          have h2 := HI0.out.2.1
          rw [List.take_of_length_le (by omega)] at h1
          show _ = _
          rw [h1, h2, Ex.names_own, List.append_assoc]
        go_wp2_with fail
        go_ret
        exact ⟨_, rfl, by rw [← HM.out]; exact HI.out.1, HI.out.2.2⟩
  | false =>
    have HOwn : Hid (e.own = []) := by unfold Ex.own; rw [if_neg (by simpa using hk2)]; rfl
    go_enter Try.func40, Try.ntmps40
    go_wp2_with fail
    obtain ⟨ys, hys⟩ : ∃ ys, xs = ys := ⟨_, rfl⟩
    have HI0 : Hid (OwnT (w.alloc (.cells #[.int .i64 e.kind, .int .i64 e.n, .string e.name, .slice a e.of.length cap] 24)) base ys (.slice a0 xs.length cap0) ∧ ys = xs ++ e.own ∧ Grow w (w.alloc (.cells #[.int .i64 e.kind, .int .i64 e.n, .string e.name, .slice a e.of.length cap] 24)) (.slice a0 xs.length cap0) (.slice a0 xs.length cap0)) :=
      ⟨by rw [← hys]; exact HO.out.kept ((Kept.refl w).al _), by rw [HOwn.out, List.append_nil, hys], Grow.kept _ ((Kept.refl w).al _)⟩
    clear hys
    generalize w.alloc (.cells #[.int .i64 e.kind, .int .i64 e.n, .string e.name, .slice a e.of.length cap] 24) = W at *
    go_loopw [0, 18] (fun list i wr => ∃ (k : Nat) (a1 : Option Addr) (n1 q1 : Nat) (zs : List ByteArray), list = .slice a1 n1 q1 ∧ i = .int .i64 (k : Int) ∧ k ≤ e.of.length ∧ Hid (OwnT wr base zs (.slice a1 n1 q1) ∧ zs = ys ++ Ex.namesL (e.of.take k) ∧ Grow w wr (.slice a0 xs.length cap0) (.slice a1 n1 q1))) (fun _ i _ => e.of.length - (intOf i).toNat)
    case atStart => exact ⟨0, _, _, _, ys, rfl, rfl, Nat.zero_le _, HI0.out.1, by simp [Ex.namesL], HI0.out.2.2⟩
    case round =>
      obtain ⟨k, ax, nx, qx, zs, rfl, rfl, hk, HI⟩ := hrel
      have hbr := HI.out.1.le
      have HBl : Hid (Below base w wr) := HI.out.2.2.below HO.out.le HO.out.base_le
      by_cases hlt : k < e.of.length
      · have hki : (k : Int) < (e.of.length : Int) := by omega
        obtain ⟨b, o, a1, n1, q1, rfl, _, hb, _, c0, c1, c2, c3, k1⟩ := HA.out.item (Stays.of_below HBl.out (Nat.le_refl _)) k hlt
        have hzb : b < wr.heap.size := by omega
        have hst := Ex.sizes_take e.of k hlt
        have hstl := Ex.sizes_take_le e.of (k + 1)
        have hnl := Ex.namesL_len (e.of.take k)
        have hzl : zs.length + e.of[k].size ≤ 1073741824 := by
          have h1 := HI.out.2.1
          have h2 := HI0.out.2.1
          have := HN.out
          rw [h1, h2, List.length_append, List.length_append]; omega
        have P : Hid (∀ W, Kept wr W → Calls Try.prog 40 #[.slice ax nx qx, .agg #[.int .i64 e.of[k].kind, .int .i64 e.of[k].n, .string e.of[k].name, .slice a1 n1 q1]] W fun r w' => ∃ a8 n8 q8, r = .returned (.slice a8 n8 q8) ∧ Hid (OwnT w' base (zs ++ e.of[k].names) (.slice a8 n8 q8) ∧ Grow W w' (.slice ax nx qx) (.slice a8 n8 q8))) := by
          intro W hW
          refine (HH.out _ (List.getElem_mem hlt) W base zs _ _ (HI.out.1.kept hW) (k1.stays (hW.stays hbr)) hzl).mono ?_
          rintro r w6 ⟨v6, rfl, ho6, hg6⟩
          obtain ⟨a8, q8, rfl, -⟩ := own_slice ho6.row
          exact ⟨a8, _, q8, rfl, ho6, hg6⟩
        have HM : Hid (zs ++ e.of[k].names = ys ++ Ex.namesL (e.of.take (k + 1))) := by show _ = _; rw [HI.out.2.1, Ex.namesL_take e.of k hlt, List.append_assoc]
        clear hst hstl hnl hzl k1
        go_wp2_with fail
        refine (P.out _ ((Kept.refl wr).al _)).mono ?_
        rintro r w6 ⟨a8, n8, q8, rfl, HS⟩
        have HG6 : Hid (Grow w w6 (.slice a0 xs.length cap0) (.slice a8 n8 q8)) := HI.out.2.2.trans ((Grow.kept _ ((Kept.refl wr).al _)).trans HS.out.2)
        go_wp2_with fail
        go_roundw
        case rel => exact ⟨k + 1, _, _, _, _, rfl, by go_num, by omega, HS.out.1, HM.out, HG6.out⟩
        case measure => simp [intOf]; omega
      · have hki : ¬ (k : Int) < (e.of.length : Int) := by omega
        have HM : Hid (zs = xs ++ e.names) := by
          have h1 := HI.out.2.1
          have h2 := HI0.out.2.1
          rw [List.take_of_length_le (by omega)] at h1
          show _ = _
          rw [h1, h2, Ex.names_own, List.append_assoc]
        go_wp2_with fail
        go_ret
        exact ⟨_, rfl, by rw [← HM.out]; exact HI.out.1, HI.out.2.2⟩

theorem appendNames_any (e : Ex) : PAn e := Ex.ind appendNames_of e

set_option maxRecDepth 100000 in
set_option maxHeartbeats 2000000 in
theorem names_any (e : Ex) (w : World) (va : Value) (ha : ExsIn w 0 w.heap.size e.of va) (hn : e.size ≤ 1073741824) :
    Calls Try.prog 21 #[e.val va] w fun r w' => ∃ v', r = .returned v' ∧ OwnT w' w.heap.size e.names v' ∧ Kept w w' := by
  obtain ⟨a, cap, rfl, -⟩ := ha.open
  have P : Hid (∀ W, Kept w W → Calls Try.prog 40 #[.slice none 0 0, .agg #[.int .i64 e.kind, .int .i64 e.n, .string e.name, .slice a e.of.length cap]] W fun r w' => ∃ a8 n8 q8, r = .returned (.slice a8 n8 q8) ∧ Hid (OwnT w' W.heap.size e.names (.slice a8 n8 q8) ∧ Kept W w')) := by
    intro W hW
    refine (appendNames_any e W W.heap.size [] _ _ (OwnT.nil W) ((ha.stays (hW.stays (Nat.le_refl _))).mono (Rng.up (Nat.le_refl _) hW.size)) (by simpa using hn)).mono ?_
    rintro r w6 ⟨v6, rfl, ho6, hg6⟩
    obtain ⟨a8, q8, rfl, -⟩ := own_slice ho6.row
    exact ⟨a8, _, q8, rfl, by simpa using ho6, hg6.below (Nat.le_refl _) (fun k h => by cases h)⟩
  clear ha
  unfold Ex.val
  go_enter Try.func21, Try.ntmps21
  go_wp2_with fail
  refine (P.out _ ((Kept.refl w).al _)).mono ?_
  rintro r w6 ⟨a8, n8, q8, rfl, HS⟩
  go_wp2_with fail
  go_ret
  exact ⟨_, rfl, ⟨⟨HS.out.1.row.1, HS.out.1.row.2.imp id fun ⟨g, c, cu, h1, h2, h3⟩ => ⟨g, c, cu, h1, by simp at h2; omega, h3⟩⟩, Nat.le_trans ((Kept.refl w).al _ : Kept w _).size HS.out.1.le⟩, ((Kept.refl w).al _).then HS.out.2⟩
#print axioms names_any
end Go.Proofs.Ytoaaikbplnpmmaa
